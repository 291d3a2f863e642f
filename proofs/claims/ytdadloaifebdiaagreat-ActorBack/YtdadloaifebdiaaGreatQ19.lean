import Derived.Test.YtdadloaifebdiaaGreatQ18
/-
  The document's outbox: Send.
-/
namespace Go.Proofs.YtdadloaifebdiaaGreat
set_option maxRecDepth 100000
open Go.RowKit
set_option linter.unusedVariables false
theorem rt71 : RowT 80 93 5 72 (.agg #[.string ⟨#[]⟩, .string ⟨#[]⟩, .int .u64 0, .int .i64 0, .slice none 0 0]) := ⟨Tryz.underlying80, by kernel_rfl, rfl, by omega, by omega⟩
theorem OwnY.app {w0 w : World} {v : Value} {qs : List Yq} (h : OwnY 93 w0 w v qs) (y : Yq) (hq : OwnsJ w y.q.sl y.q.x.args) (hf : Fresh w0 y.q.sl) (hs : w0.heap.size ≤ w.heap.size) (hn : qs.length ≤ 900000) : ∃ ad c w', (Builtin.append_ #[80, 80] 80 #[v, .slice (some ⟨w.heap.size, 0, none⟩) 1 1]).run Tryz.prog (w.alloc (.cells #[Sv y.to, Sv y.q.x.fr, .int .u64 (y.q.x.ser : Int), .int .i64 y.q.x.kind, y.q.sl] 93)) = .ok (.slice ad (qs.length + 1) c) w' ∧ OwnY 93 w0 w' (.slice ad (qs.length + 1) c) (qs ++ [y]) ∧ Kept v.ownBlock.toList w w' := by
  obtain ⟨ad, c, w', hrun, ho, k, hN⟩ := append_rowR rt71 h.own (cellsY y) rfl (fun u hu => by simp [cellsY] at hu; rcases hu with rfl | rfl | rfl | rfl | rfl <;> rfl) (by rw [CY_length]; exact hn) 93 (0, 0) 80
  rw [CY_length] at *
  refine ⟨ad, c, w', hrun, ⟨?_, fun z hz => ?_, fun g hg => ?_, fun z hz => ?_⟩, k⟩
  · rw [CY_append]; exact ho
  · have hz' : OwnsJ w z.q.sl z.q.x.args := by
      rcases List.mem_append.1 hz with hz | hz
      · exact h.args z hz
      · simp at hz; subst hz; exact hq
    exact hz'.kept k (fun g hg hm => by rw [Option.mem_toList] at hm; exact own_apart hz' h.own (by decide) hg hm)
  · rcases hN g hg with h1 | h1
    · exact h.fr g h1
    · omega
  · rcases List.mem_append.1 hz with hz | hz
    · exact h.fra z hz
    · simp at hz; subst hz; exact hf
theorem ownR_form {e : TypeId} {k : Nat} {w : World} {v : Value} {rs : List (List Value)} (h : OwnsR e k w v rs) : (v = .slice none 0 0 ∧ rs.length = 0) ∨ ∃ g cap cur, v = .slice (some ⟨g, 0, none⟩) rs.length cap ∧ w.heap[g]? = some (.cells cur e (0, 0)) := by
  rcases h.2 with ⟨rfl, h0⟩ | ⟨g1, cap, cur, rfl, _, hb, _⟩
  · exact .inl ⟨rfl, h0⟩
  · exact .inr ⟨g1, cap, cur, rfl, hb⟩
section
variable {w0 w w' : World} {p pf : Nat} {v u : Value} {own : List UInt8} {K : List La} {qs ms : List Yq}
theorem set65 (hF : IsF w0 w p v u own K ms) (hK : K.length ≤ 64) (hs0 : w0.heap.size ≤ w.heap.size) (to : List UInt8) (s : Nat) : Calls Tryz.prog 104 #[.pointer (some ⟨p, 0, none⟩), Sv to, Uv s] w fun e w' => e = .returned (.tuple #[]) ∧ ∃ u', IsF w0 w' p v u' own (setK K to s) ms ∧ Kept (footF p v u) w w' := by
  cases h : hasK K to with
  | true => exact set65_has hF hK to s h
  | false => exact set65_new hF hK hs0 to s h
theorem send29_arg (to : List UInt8) (kind : Int) (a : Option Addr) (n c : Nat) (pp : Option Addr) (hl : to.length ≤ 281474976710656) (hn : n ≤ 1000000) (h : isKey to = false ∨ 4 < n) :
    Calls Tryz.prog 54 #[.pointer pp, Sv to, .int .i64 kind, .slice a n c] w fun e w' => e = .returned (.tuple #[Uv 0, .int .i64 1]) ∧ w = w' := by
  have HK := Hid.mk (key28 (w := w) to hl)
  cases hk : isKey to with
  | false =>
    rw [hk] at HK
    clear h hk
    go_enter Tryz.func54, Tryz.ntmps54
    go_wp2_with fail
    refine HK.out.mono ?_
    rintro e w1 ⟨rfl, rfl⟩
    go_wp2_with fail
    go_ret2
    exact ⟨rfl, rfl⟩
  | true =>
    rw [hk] at HK h
    have g4 : (4 : Int) < (n : Int) := by rcases h with h | h; cases h; omega
    clear h hk
    go_enter Tryz.func54, Tryz.ntmps54
    go_wp2_with fail
    refine HK.out.mono ?_
    rintro e w1 ⟨rfl, rfl⟩
    go_wp2_with fail
    go_ret2
    exact ⟨rfl, rfl⟩
set_option maxHeartbeats 1000000 in
theorem send29_full (hF : IsF w0 w p v u own K ms) (hK : K.length ≤ 64) (hm : ms.length ≤ 32) (to : List UInt8) (kind : Int) (a : Option Addr) (n c : Nat) (hk : isKey to = true) (hn : n ≤ 4) (h : ms.length = 32 ∨ (hasK K to = false ∧ K.length = 64)) :
    Calls Tryz.prog 54 #[.pointer (some ⟨p, 0, none⟩), Sv to, .int .i64 kind, .slice a n c] w fun e w' => e = .returned (.tuple #[Uv 0, .int .i64 6]) ∧ w = w' := by
  have hkl := (isKey_iff to).1 hk
  have HK := Hid.mk (key28 (w := w) to (by omega))
  rw [hk] at HK
  obtain ⟨au, cu, rfl, hc1, hc2⟩ := rowK_form hF.krow
  obtain ⟨av, cv, rfl, hv1, hv2⟩ := rowY_form hF.ys.row
  obtain ⟨x0, x1, x2⟩ := cells3 hF.box
  have HT := Hid.mk (there53 x2 hF.krow to (by omega))
  have g4 : ((4 : Int) < (n : Int)) = False := eq_false (by omega)
  by_cases h32 : ms.length = 32
  · have g32 : (32 : Int) ≤ (ms.length : Int) := by omega
    clear h hF h32 hk hkl
    go_enter Tryz.func54, Tryz.ntmps54
    go_wp2_with fail
    refine HK.out.mono ?_
    rintro e w1 ⟨rfl, rfl⟩
    go_wp2_with fail
    go_ret2
    exact ⟨rfl, rfl⟩
  · have h2 : hasK K to = false ∧ K.length = 64 := by rcases h with h | h; exact absurd h h32; exact h
    rw [h2.1] at HT
    have g64 : (64 : Int) ≤ (K.length : Int) := by omega
    have g32 : ((32 : Int) ≤ (ms.length : Int)) = False := eq_false (by omega)
    clear h hF h32 hk hkl h2
    go_enter Tryz.func54, Tryz.ntmps54
    go_wp2_with fail
    refine HK.out.mono ?_
    rintro e w1 ⟨rfl, rfl⟩
    go_wp2_with fail
    refine HT.out.mono ?_
    rintro e w1 ⟨rfl, rfl⟩
    go_wp2_with fail
    go_ret2
    exact ⟨rfl, rfl⟩
set_option maxHeartbeats 2000000 in
theorem send29_ok (hF : IsF w0 w p v u own K ms) (hK : K.length ≤ 64) (hs0 : w0.heap.size ≤ w.heap.size) (to : List UInt8) (x : Lt) (a : Option Addr) (c : Nat) (hk : isKey to = true) (hn : x.args.length ≤ 4) (hx : ∀ W, Kept (footF p v u) w W → ReadsJ W (.slice a x.args.length c) x.args) (hfr : x.fr = own) (hser : x.ser = ser K to + 1) (h32 : ms.length < 32) (h64 : hasK K to = true ∨ K.length < 64) (hs : ser K to + 1 < 18446744073709551616) :
    Calls Tryz.prog 54 #[.pointer (some ⟨p, 0, none⟩), Sv to, .int .i64 x.kind, .slice a x.args.length c] w fun e w' => e = .returned (.tuple #[Uv (ser K to + 1), .int .i64 0]) ∧ ∃ v' u' a' c', IsF w0 w' p v' u' own (setK K to (ser K to + 1)) (ms ++ [⟨to, x, a', c'⟩]) ∧ Kept (footF p v u) w w' := by
  have hkl := (isKey_iff to).1 hk
  have HK := Hid.mk (key28 (w := w) to (by omega))
  rw [hk] at HK
  have HSET : Hid (∀ W, Kept [] w W → Calls Tryz.prog 104 #[.pointer (some ⟨p, 0, none⟩), Sv to, Uv x.ser] W fun e w' => e = .returned (.tuple #[]) ∧ ∃ u', IsF w0 w' p v u' own (setK K to x.ser) ms ∧ Kept (footF p v u) W w') := fun W k => set65 (hF.kept0 k) hK (by have := k.size; omega) to x.ser
  obtain ⟨au, cu, rfl, hc1, hc2⟩ := rowK_form hF.krow
  obtain ⟨av, cv, rfl, hv1, hv2⟩ := rowY_form hF.ys.row
  obtain ⟨x0, x1, x2⟩ := cells3 hF.box
  have HT := Hid.mk (there53 x2 hF.krow to (by omega))
  have HSR := Hid.mk (serial33 x2 hF.krow to (by omega))
  have g4 : ((4 : Int) < (x.args.length : Int)) = False := eq_false (by omega)
  have g32 : ((32 : Int) ≤ (ms.length : Int)) = False := eq_false (by omega)
  have HXP : Hid (∀ W, Kept (footF p (.slice av ms.length cv) (.slice au K.length cu)) w W → ReadsJ W (.slice a x.args.length c) x.args) := fun W k => hx W k
  have HSER := Hid.mk hser
  have HF := Hid.mk hF
  have hol : True := trivial
  have hSS : Hid (ser K to < 18446744073709551615) := Hid.mk (by omega)
  have g64 : hasK K to = false → ((64 : Int) ≤ (K.length : Int)) = False := fun h => eq_false (by rcases h64 with h' | h'; rw [h] at h'; cases h'; omega)
  rw [← hser]
  have hK2 : Hid (∃ K', setK K to x.ser = K') := ⟨_, rfl⟩
  obtain ⟨K', hK'⟩ := hK2.out
  rw [hK'] at HSET ⊢
  rw [← hfr] at HSET HF ⊢
  rw [← hfr] at x0
  have hsI : (ser K to : Int) + 1 = (x.ser : Int) := by rw [hser]; rfl
  have hs1 : (ser K to : Int) < 18446744073709551615 := by have := hSS.out; omega
  have g64 : Hid (hasK K to = false → ((64 : Int) ≤ (K.length : Int)) = False) := fun h => eq_false (by rcases h64 with h' | h'; rw [h] at h'; cases h'; omega)
  have HF0 := Hid.mk HF.out
  clear hF hk hkl hK' hK2 hx hfr hser h64 hs HSER hSS HF
  generalize ser K to = S at *
  generalize hasK K to = A at *
  have gg : A = true ∨ (A = false ∧ ((64 : Int) ≤ (K.length : Int)) = False) := by cases A; exact .inr ⟨rfl, g64.out rfl⟩; exact .inl rfl
  clear g64
  go_enter Tryz.func54, Tryz.ntmps54
  rcases gg with rfl | ⟨rfl, g64⟩
  all_goals
    go_wp2_with fail
    refine HK.out.mono ?_
    rintro e w1 ⟨rfl, rfl⟩
    go_wp2_with fail
    refine HT.out.mono ?_
    rintro e w1 ⟨rfl, rfl⟩
    go_wp2_with fail
    refine HSR.out.mono ?_
    rintro e w1 ⟨rfl, k1⟩
    go_wp2_with fail
    refine (HSET.out _ k1).mono ?_
    rintro e w3 ⟨rfl, u3, hF3, k3⟩
    have k03 : Kept (footF p (.slice av ms.length cv) (.slice au K.length cu)) w w3 := (k1.mono (by simp)).trans k3 (fun x hx => .inl hx)
    have kd := k03.drew
    have hFd := hF3.kept0 (Kept.refl [] w3).drew
    obtain ⟨y0, y1, y2⟩ := cells3 hFd.box
    have HC := Hid.mk (copy25 x a c (HXP.out _ kd) (by omega))
    have HFD := Hid.mk hFd
    have HKD := Hid.mk kd
    clear hFd hF3 k3 k03 kd x0 x1 x2
    go_wp2_with fail
    go_region_law (first | (refine step_append_run 80 (.tmp 51) (.tmp 63) (by rfl) (by rfl) _ _ (by rfl) (by rfl) hrun ?_) | ((try go_simp); go_at_call 98; refine HC.out.mono ?_; rintro e w5 ⟨a5, c5, rfl, hO5, k5, hf5⟩; obtain ⟨a6, c6, w6, hrun, hO6, k6⟩ := (HFD.out.ys.kept0 k5).app ⟨to, x, a5, c5⟩ hO5 (fun g hg => by have := hf5 g hg; have := HKD.out.size; omega) (by have := k5.size; have := HKD.out.size; omega) (by omega); have hF5 := HFD.out.kept0 k5; have h6 := k6.keeps hF5.box (by rw [Option.mem_toList]; exact ownsR_ne hF5.ys.own hF5.box (by decide)); obtain ⟨q0, q1, q2⟩ := cells3 h6; obtain ⟨qf0, qf1, qf2⟩ := free3 h6; have q5 := (cells3 hF5.box).2.1; have q6 := ((Kept.refl [] w5).alloc (.cells #[Sv to, Sv x.fr, .int .u64 (x.ser : Int), .int .i64 x.kind, .slice a5 x.args.length c5] 93)).cell_eq q5; clear hF5))
    all_goals
      have HR : Hid (IsF w0 (w6.setCell ⟨p, 1, none⟩ (.slice a6 (ms.length + 1) c6)) p (.slice a6 (ms.length + 1) c6) u3 x.fr K' (ms ++ [⟨to, x, a5, c5⟩]) ∧ Kept (footF p (.slice av ms.length cv) (.slice au K.length cu)) w (w6.setCell ⟨p, 1, none⟩ (.slice a6 (ms.length + 1) c6))) := by
        have kp := (Kept.refl [p] w6).setCell (p := ⟨p, 1, none⟩) (.inl (by simp)) (.slice a6 (ms.length + 1) c6)
        have hks := (HFD.out.ks.kept k5 (by simp)).kept k6 (fun g hg hm => by rw [Option.mem_toList] at hm; exact own_apart (HFD.out.kept0 k5).ks (HFD.out.kept0 k5).ys.own (by decide) hg hm)
        refine ⟨⟨set3_1 h6, hO6.kept kp (fun g hg => ?_), hks.kept kp (fun g hg hm => ?_), HFD.out.fru, HFD.out.fr⟩, ?_⟩
        · simp at hg
          subst hg
          exact ⟨ownsR_ne hO6.own h6 (by decide), fun q hq => ownsJ_ne (hO6.args q hq) h6 (by decide)⟩
        · simp at hm
          subst hm
          exact ownsR_ne hks h6 (by decide) hg
        · exact ((HKD.out.trans k5 (by simp)).trans k6 (fun y hy => .inl (mem_footF.2 (.inr (.inl (by rw [Option.mem_toList] at hy; exact hy)))))).setCell (p := ⟨p, 1, none⟩) (.inl (mem_footF.2 (.inl rfl))) _
      clear hO6 k6 h6 hO5 k5 hf5 q0 q1 q2 qf0 qf1 qf2 q5 q6 hrun
      go_wp2_with fail
      go_ret2
      exact ⟨rfl, _, _, _, _, HR.out⟩
end
end Go.Proofs.YtdadloaifebdiaaGreat
