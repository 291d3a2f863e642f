import Derived.Test.YtdadloaifebdiaaQ04
import Derived.Test.YtdadloaifebdiaaQ17
/-
  The document's outbox: Send.
-/
namespace Go.Proofs.Ytdadloaifebdiaa
set_option maxRecDepth 100000
open Go.RowKit
set_option linter.unusedVariables false
theorem rt71 : RowT 89 113 5 72 (.agg #[.string ⟨#[]⟩, .string ⟨#[]⟩, .int .u64 0, .int .i64 0, .slice none 0 0]) := ⟨Try.underlying89, by kernel_rfl, rfl, by omega, by omega⟩
theorem OwnY.app {w0 w : World} {v : Value} {qs : List Yq} (h : OwnY 113 w0 w v qs) (y : Yq) (hq : OwnsJ w y.q.sl y.q.x.args) (hf : Fresh w0 y.q.sl) (hs : w0.heap.size ≤ w.heap.size) (hn : qs.length ≤ 900000) : ∃ ad c w', (Builtin.append_ #[89, 89] 89 #[v, .slice (some ⟨w.heap.size, 0, none⟩) 1 1]).run Try.prog (w.alloc (.cells #[Sv y.to, Sv y.q.x.fr, .int .u64 (y.q.x.ser : Int), .int .i64 y.q.x.kind, y.q.sl] 113)) = .ok (.slice ad (qs.length + 1) c) w' ∧ OwnY 113 w0 w' (.slice ad (qs.length + 1) c) (qs ++ [y]) ∧ Kept v.ownBlock.toList w w' := by
  obtain ⟨ad, c, w', hrun, ho, k, hN⟩ := append_rowR rt71 h.own (cellsY y) rfl (fun u hu => by simp [cellsY] at hu; rcases hu with rfl | rfl | rfl | rfl | rfl <;> rfl) (by rw [CY_length]; exact hn) 113 (0, 0) 89
  rw [CY_length] at *
  refine ⟨ad, c, w', hrun, ⟨?_, fun z hz => ?_, fun g hg => ?_, fun z hz => ?_⟩, k⟩
  · rw [CY_append]; exact ho
  · have hz' : OwnsJ w z.q.sl z.q.x.args := by
      rcases List.mem_append.1 hz with hz | hz
      · exact h.args z hz
      · simp at hz; subst hz; exact hq
    exact hz'.kept k (fun g hg hm => by rw [Option.mem_toList] at hm; exact own_apart hz' h.own (by decide) hg hm)
  · rcases hN g hg with h1 | h1
    · exact h.fr g h1
    · omega
  · rcases List.mem_append.1 hz with hz | hz
    · exact h.fra z hz
    · simp at hz; subst hz; exact hf
theorem ownR_form {e : TypeId} {k : Nat} {w : World} {v : Value} {rs : List (List Value)} (h : OwnsR e k w v rs) : (v = .slice none 0 0 ∧ rs.length = 0) ∨ ∃ g cap cur, v = .slice (some ⟨g, 0, none⟩) rs.length cap ∧ w.heap[g]? = some (.cells cur e (0, 0)) := by
  rcases h.2 with ⟨rfl, h0⟩ | ⟨g1, cap, cur, rfl, _, hb, _⟩
  · exact .inl ⟨rfl, h0⟩
  · exact .inr ⟨g1, cap, cur, rfl, hb⟩
section
variable {w0 w w' : World} {p pf : Nat} {v u : Value} {own : List UInt8} {K : List La} {qs ms : List Yq}
theorem set65 (hF : IsF w0 w p v u own K ms) (hK : K.length ≤ 64) (hs0 : w0.heap.size ≤ w.heap.size) (to : List UInt8) (s : Nat) : Calls Try.prog 59 #[.pointer (some ⟨p, 0, none⟩), Sv to, Uv s] w fun e w' => e = .returned (.tuple #[]) ∧ ∃ u', IsF w0 w' p v u' own (setK K to s) ms ∧ Kept (footF p v u) w w' := by
  cases h : hasK K to with
  | true => exact set65_has hF hK to s h
  | false => exact set65_new hF hK hs0 to s h
theorem send29_arg (to : List UInt8) (kind : Int) (a : Option Addr) (n c : Nat) (pp : Option Addr) (hl : to.length ≤ 281474976710656) (hn : n ≤ 1000000) (h : isKey to = false ∨ 4 < n) :
    Calls Try.prog 20 #[.pointer pp, Sv to, .int .i64 kind, .slice a n c] w fun e w' => e = .returned (.tuple #[Uv 0, .int .i64 1]) ∧ w = w' := by
  have HK := Hid.mk (key28 (w := w) to hl)
  cases hk : isKey to with
  | false =>
    rw [hk] at HK
    clear h hk
    go_enter Try.func20, Try.ntmps20
    go_wp2_with fail
    refine HK.out.mono ?_
    rintro e w1 ⟨rfl, rfl⟩
    go_wp2_with fail
    go_ret2
    exact ⟨rfl, rfl⟩
  | true =>
    rw [hk] at HK h
    have g4 : (4 : Int) < (n : Int) := by rcases h with h | h; cases h; omega
    clear h hk
    go_enter Try.func20, Try.ntmps20
    go_wp2_with fail
    refine HK.out.mono ?_
    rintro e w1 ⟨rfl, rfl⟩
    go_wp2_with fail
    go_ret2
    exact ⟨rfl, rfl⟩
set_option maxHeartbeats 1000000 in
theorem send29_full (hF : IsF w0 w p v u own K ms) (hK : K.length ≤ 64) (hm : ms.length ≤ 32) (to : List UInt8) (kind : Int) (a : Option Addr) (n c : Nat) (hk : isKey to = true) (hn : n ≤ 4) (h : ms.length = 32 ∨ (hasK K to = false ∧ K.length = 64)) :
    Calls Try.prog 20 #[.pointer (some ⟨p, 0, none⟩), Sv to, .int .i64 kind, .slice a n c] w fun e w' => e = .returned (.tuple #[Uv 0, .int .i64 6]) ∧ w = w' := by
  have hkl := (isKey_iff to).1 hk
  have HK := Hid.mk (key28 (w := w) to (by omega))
  rw [hk] at HK
  obtain ⟨au, cu, rfl, hc1, hc2⟩ := rowK_form hF.krow
  obtain ⟨av, cv, rfl, hv1, hv2⟩ := rowY_form hF.ys.row
  obtain ⟨x0, x1, x2⟩ := cells3 hF.box
  have HT := Hid.mk (there53 x2 hF.krow to (by omega))
  have g4 : ((4 : Int) < (n : Int)) = False := eq_false (by omega)
  by_cases h32 : ms.length = 32
  · have g32 : (32 : Int) ≤ (ms.length : Int) := by omega
    clear h hF h32 hk hkl
    go_enter Try.func20, Try.ntmps20
    go_wp2_with fail
    refine HK.out.mono ?_
    rintro e w1 ⟨rfl, rfl⟩
    go_wp2_with fail
    go_ret2
    exact ⟨rfl, rfl⟩
  · have h2 : hasK K to = false ∧ K.length = 64 := by rcases h with h | h; exact absurd h h32; exact h
    rw [h2.1] at HT
    have g64 : (64 : Int) ≤ (K.length : Int) := by omega
    have g32 : ((32 : Int) ≤ (ms.length : Int)) = False := eq_false (by omega)
    clear h hF h32 hk hkl h2
    go_enter Try.func20, Try.ntmps20
    go_wp2_with fail
    refine HK.out.mono ?_
    rintro e w1 ⟨rfl, rfl⟩
    go_wp2_with fail
    refine HT.out.mono ?_
    rintro e w1 ⟨rfl, rfl⟩
    go_wp2_with fail
    go_ret2
    exact ⟨rfl, rfl⟩
set_option maxHeartbeats 2000000 in
theorem send29_ok (hF : IsF w0 w p v u own K ms) (hK : K.length ≤ 64) (hs0 : w0.heap.size ≤ w.heap.size) (to : List UInt8) (x : Lt) (a : Option Addr) (c : Nat) (hk : isKey to = true) (hn : x.args.length ≤ 4) (hx : ∀ W, Kept (footF p v u) w W → ReadsJ W (.slice a x.args.length c) x.args) (hfr : x.fr = own) (hser : x.ser = ser K to + 1) (h32 : ms.length < 32) (h64 : hasK K to = true ∨ K.length < 64) (hs : ser K to + 1 < 18446744073709551616) :
    Calls Try.prog 20 #[.pointer (some ⟨p, 0, none⟩), Sv to, .int .i64 x.kind, .slice a x.args.length c] w fun e w' => e = .returned (.tuple #[Uv (ser K to + 1), .int .i64 0]) ∧ ∃ v' u' a' c', IsF w0 w' p v' u' own (setK K to (ser K to + 1)) (ms ++ [⟨to, x, a', c'⟩]) ∧ Kept (footF p v u) w w' := by
  have hkl := (isKey_iff to).1 hk
  have HK := Hid.mk (key28 (w := w) to (by omega))
  rw [hk] at HK
  have HSET : Hid (∀ W, Kept [] w W → Calls Try.prog 59 #[.pointer (some ⟨p, 0, none⟩), Sv to, Uv x.ser] W fun e w' => e = .returned (.tuple #[]) ∧ ∃ u', IsF w0 w' p v u' own (setK K to x.ser) ms ∧ Kept (footF p v u) W w') := fun W k => set65 (hF.kept0 k) hK (by have := k.size; omega) to x.ser
  obtain ⟨au, cu, rfl, hc1, hc2⟩ := rowK_form hF.krow
  obtain ⟨av, cv, rfl, hv1, hv2⟩ := rowY_form hF.ys.row
  obtain ⟨x0, x1, x2⟩ := cells3 hF.box
  have HT := Hid.mk (there53 x2 hF.krow to (by omega))
  have HSR := Hid.mk (serial33 x2 hF.krow to (by omega))
  have g4 : ((4 : Int) < (x.args.length : Int)) = False := eq_false (by omega)
  have g32 : ((32 : Int) ≤ (ms.length : Int)) = False := eq_false (by omega)
  have HXP : Hid (∀ W, Kept (footF p (.slice av ms.length cv) (.slice au K.length cu)) w W → ReadsJ W (.slice a x.args.length c) x.args) := fun W k => hx W k
  have HSER := Hid.mk hser
  have HF := Hid.mk hF
  have hol : True := trivial
  have hSS : Hid (ser K to < 18446744073709551615) := Hid.mk (by omega)
  have g64 : hasK K to = false → ((64 : Int) ≤ (K.length : Int)) = False := fun h => eq_false (by rcases h64 with h' | h'; rw [h] at h'; cases h'; omega)
  rw [← hser]
  have hK2 : Hid (∃ K', setK K to x.ser = K') := ⟨_, rfl⟩
  obtain ⟨K', hK'⟩ := hK2.out
  rw [hK'] at HSET ⊢
  rw [← hfr] at HSET HF ⊢
  rw [← hfr] at x0
  have hsI : (ser K to : Int) + 1 = (x.ser : Int) := by rw [hser]; rfl
  have hs1 : (ser K to : Int) < 18446744073709551615 := by have := hSS.out; omega
  have g64 : Hid (hasK K to = false → ((64 : Int) ≤ (K.length : Int)) = False) := fun h => eq_false (by rcases h64 with h' | h'; rw [h] at h'; cases h'; omega)
  have HF0 := Hid.mk HF.out
  clear hF hk hkl hK' hK2 hx hfr hser h64 hs HSER hSS HF
  generalize ser K to = S at *
  generalize hasK K to = A at *
  have gg : A = true ∨ (A = false ∧ ((64 : Int) ≤ (K.length : Int)) = False) := by cases A; exact .inr ⟨rfl, g64.out rfl⟩; exact .inl rfl
  clear g64
  go_enter Try.func20, Try.ntmps20
  rcases gg with rfl | ⟨rfl, g64⟩
  all_goals
    go_wp2_with fail
    refine HK.out.mono ?_
    rintro e w1 ⟨rfl, rfl⟩
    go_wp2_with fail
    refine HT.out.mono ?_
    rintro e w1 ⟨rfl, rfl⟩
    go_wp2_with fail
    refine HSR.out.mono ?_
    rintro e w1 ⟨rfl, k1⟩
    go_wp2_with fail
    refine (HSET.out _ k1).mono ?_
    rintro e w3 ⟨rfl, u3, hF3, k3⟩
    have k03 : Kept (footF p (.slice av ms.length cv) (.slice au K.length cu)) w w3 := (k1.mono (by simp)).trans k3 (fun x hx => .inl hx)
    have kd := k03.drew
    have hFd := hF3.kept0 (Kept.refl [] w3).drew
    obtain ⟨y0, y1, y2⟩ := cells3 hFd.box
    have HC := Hid.mk (copy25 x a c (HXP.out _ kd) (by omega))
    have HFD := Hid.mk hFd
    have HKD := Hid.mk kd
    clear hFd hF3 k3 k03 kd x0 x1 x2
    go_wp2_with fail
    go_region_law (first | (refine step_append_run 89 (.tmp 51) (.tmp 63) (by rfl) (by rfl) _ _ (by rfl) (by rfl) hrun ?_) | ((try go_simp); go_at_call 50; refine HC.out.mono ?_; rintro e w5 ⟨a5, c5, rfl, hO5, k5, hf5⟩; obtain ⟨a6, c6, w6, hrun, hO6, k6⟩ := (HFD.out.ys.kept0 k5).app ⟨to, x, a5, c5⟩ hO5 (fun g hg => by have := hf5 g hg; have := HKD.out.size; omega) (by have := k5.size; have := HKD.out.size; omega) (by omega); have hF5 := HFD.out.kept0 k5; have h6 := k6.keeps hF5.box (by rw [Option.mem_toList]; exact ownsR_ne hF5.ys.own hF5.box (by decide)); obtain ⟨q0, q1, q2⟩ := cells3 h6; obtain ⟨qf0, qf1, qf2⟩ := free3 h6; have q5 := (cells3 hF5.box).2.1; have q6 := ((Kept.refl [] w5).alloc (.cells #[Sv to, Sv x.fr, .int .u64 (x.ser : Int), .int .i64 x.kind, .slice a5 x.args.length c5] 113)).cell_eq q5; clear hF5))
    all_goals
      have HR : Hid (IsF w0 (w6.setCell ⟨p, 1, none⟩ (.slice a6 (ms.length + 1) c6)) p (.slice a6 (ms.length + 1) c6) u3 x.fr K' (ms ++ [⟨to, x, a5, c5⟩]) ∧ Kept (footF p (.slice av ms.length cv) (.slice au K.length cu)) w (w6.setCell ⟨p, 1, none⟩ (.slice a6 (ms.length + 1) c6))) := by
        have kp := (Kept.refl [p] w6).setCell (p := ⟨p, 1, none⟩) (.inl (by simp)) (.slice a6 (ms.length + 1) c6)
        have hks := (HFD.out.ks.kept k5 (by simp)).kept k6 (fun g hg hm => by rw [Option.mem_toList] at hm; exact own_apart (HFD.out.kept0 k5).ks (HFD.out.kept0 k5).ys.own (by decide) hg hm)
        refine ⟨⟨set3_1 h6, hO6.kept kp (fun g hg => ?_), hks.kept kp (fun g hg hm => ?_), HFD.out.fru, HFD.out.fr⟩, ?_⟩
        · simp at hg
          subst hg
          exact ⟨ownsR_ne hO6.own h6 (by decide), fun q hq => ownsJ_ne (hO6.args q hq) h6 (by decide)⟩
        · simp at hm
          subst hm
          exact ownsR_ne hks h6 (by decide) hg
        · exact ((HKD.out.trans k5 (by simp)).trans k6 (fun y hy => .inl (mem_footF.2 (.inr (.inl (by rw [Option.mem_toList] at hy; exact hy)))))).setCell (p := ⟨p, 1, none⟩) (.inl (mem_footF.2 (.inl rfl))) _
      clear hO6 k6 h6 hO5 k5 hf5 q0 q1 q2 qf0 qf1 qf2 q5 q6 hrun
      go_wp2_with fail
      go_ret2
      exact ⟨rfl, _, _, _, _, HR.out⟩
end
end Go.Proofs.Ytdadloaifebdiaa
/-
  The document's outbox: Pop, Keys.
-/
namespace Go.Proofs.Ytdadloaifebdiaa
set_option maxRecDepth 100000
open Go.RowKit
set_option linter.unusedVariables false
section
variable {w0 w w' : World} {p pf : Nat} {v u : Value} {own : List UInt8} {K : List La} {qs ms : List Yq}
theorem cutY {b o cv : Nat} {q : Yq} {t : List Yq} (h : ReadsR 5 w (.slice (some ⟨b, o, none⟩) (t.length + 1) cv) (CY (q :: t))) : ReadsR 5 w (.slice (if cv = 1 then some ⟨b, o, none⟩ else some ⟨b, o + 5, none⟩) t.length (cv - 1)) (CY t) := by
  obtain ⟨_, _, e, hb1, hb2⟩ := rowY_form h
  injection e with _ _ e
  subst e
  have := ReadsR.cut (k := 5) (i := 1) (j := t.length + 1) (m := cv) (by rw [CY_length]; rfl) h (by omega) (Nat.le_refl _) hb1 (Nat.le_refl _)
  have e : ((CY (q :: t)).take (t.length + 1)).drop 1 = CY t := by
    rw [List.take_of_length_le (by rw [CY_length]; simp)]
    rfl
  rw [e] at this
  unfold cutA at this
  rw [Option.map_some, add_at] at this
  exact this
/-- Texts in rows of one cell each. -/
def CT (l : List (List UInt8)) : List (List Value) := l.map fun s => [Sv s]
theorem CT_length (l : List (List UInt8)) : (CT l).length = l.length := by simp [CT]
theorem CT_append (a b : List (List UInt8)) : CT (a ++ b) = CT a ++ CT b := by simp [CT]
theorem CT_wide (l : List (List UInt8)) : Wide 1 (CT l) := fun r hr => by
  simp only [CT, List.mem_map] at hr
  obtain ⟨s, -, rfl⟩ := hr
  exact ⟨rfl, fun x hx => by simp at hx; subst hx; rfl⟩
theorem rt103 : RowT 23 9 1 16 (.string ⟨#[]⟩) := ⟨Try.underlying23, by kernel_rfl, rfl, by omega, by omega⟩
def keysL (K : List La) : List (List UInt8) := K.map (·.k)
set_option maxHeartbeats 1000000 in
theorem keys57 {a : Option Addr} {n c : Nat} (hb : w.cell? ⟨p, 2, none⟩ = some (.slice a n c)) (hr : ReadsR 2 w (.slice a n c) (CK K)) (hn : n ≤ 1000) : Calls Try.prog 44 #[.pointer (some ⟨p, 0, none⟩)] w fun e w' => ∃ v, e = .returned v ∧ OwnsR 9 1 w' v (CT (keysL K)) ∧ Kept [] w w' := by
  obtain ⟨a', c', e, h1, h2⟩ := rowK_form hr
  injection e with e1 e2 e3
  subst e1 e3
  have HN := Hid.mk e2
  have HR := Hid.mk hr
  have HB := Hid.mk hb
  clear hr e2 h1
  go_enter Try.func44, Try.ntmps44
  go_wp2_with fail
  go_loopw [3, 10] (fun x i wr => ∃ j : Nat, i = .int .i64 (j : Int) ∧ j ≤ n ∧ Hid (∃ K1 K2, K = K1 ++ K2 ∧ K1.length = j ∧ OwnsR 9 1 wr x (CT (keysL K1)) ∧ Fresh w x) ∧ Hid (Kept [] w wr)) (fun x i _ => n - (intOf i).toNat)
  case atStart => exact ⟨0, rfl, by omega, Hid.mk ⟨[], K, rfl, rfl, OwnsR.nil 9 1 _, fresh_nil _ _⟩, Hid.mk (Kept.refl [] _)⟩
  case round =>
    obtain ⟨j, rfl, hj, hO, hk⟩ := hrel
    obtain ⟨K1, K2, hKK, hK1, hO1, hf1⟩ := hO.out
    have k1 := hk.out
    by_cases hlt : j < n
    · obtain ⟨y, t, rfl⟩ : ∃ y t, K2 = y :: t := by
        cases K2 with
        | nil => have := HN.out; rw [hKK] at this; simp at this; omega
        | cons y t => exact ⟨y, t, rfl⟩
      have hy : K[j]? = some y := by rw [hKK, ← hK1]; simp
      obtain ⟨b, o, rfl, d0, d1⟩ := rowK_at (HR.out.kept k1 (by simp)) hy
      have hb' := k1.cell_eq HB.out
      obtain ⟨a2, c2, w2, hrun, hO2, k2, hN2⟩ := append_rowR rt103 hO1 [Sv y.k] rfl (fun x hx => by simp at hx; subst hx; rfl) (by rw [CT_length, keysL, List.length_map]; omega) 9 (0, 0) 23
      have hL : (CT (keysL K1)).length = j := by rw [CT_length, keysL, List.length_map]; exact hK1
      obtain ⟨ax, nx, cx, rfl⟩ : ∃ ax nx cx, u3 = .slice ax nx cx := by
        rcases ownR_form hO1 with ⟨rfl, -⟩ | ⟨g, cap, cur, rfl, -⟩
        · exact ⟨_, _, _, rfl⟩
        · exact ⟨_, _, _, rfl⟩
      have HO2 : Hid (∃ K1 K2, K = K1 ++ K2 ∧ K1.length = j + 1 ∧ OwnsR 9 1 w2 (.slice a2 ((CT (keysL K1)).length) c2) (CT (keysL K1)) ∧ Fresh w (.slice a2 ((CT (keysL K1)).length) c2)) := by
        refine ⟨K1 ++ [y], t, by rw [hKK]; simp, by simp [hK1], ?_, ?_⟩
        · have e : CT (keysL (K1 ++ [y])) = CT (keysL K1) ++ [[Sv y.k]] := by simp [CT, keysL]
          rw [e, List.length_append]
          exact hO2
        · have e : (CT (keysL (K1 ++ [y]))).length = (CT (keysL K1)).length + 1 := by simp [CT, keysL]
          rw [e]
          intro g hg
          rcases hN2 g hg with h | h
          · exact hf1 g h
          · have := k1.size; omega
      have HK2 : Hid (Kept [] w w2) := (k1.trans k2 (fun x hx => .inr (hf1 x (by rw [Option.mem_toList] at hx; exact hx))))
      have hjI : (j : Int) < (n : Int) := by omega
      rw [hL] at hrun
      have HL1 : Hid (∀ K1 K2 : List La, K = K1 ++ K2 → K1.length = j + 1 → (CT (keysL K1)).length = j + 1) := fun K1 K2 _ h => by rw [CT_length, keysL, List.length_map]; exact h
      clear hO hk hO1 hf1 k1 hO2 k2 hN2 hKK hK1 hL hy
      go_wp2_with (at_builtin; refine wpList_append_run 23 23 _ _ rfl (by rfl) _ _ rfl rfl _ _ hrun ?_)
      go_roundw
      case rel =>
        refine ⟨j + 1, by go_num, by omega, Hid.mk ?_, HK2⟩
        obtain ⟨K1, K2, h1, h2, h3, h4⟩ := HO2.out
        have := HL1.out K1 K2 h1 h2
        rw [this] at h3 h4
        exact ⟨K1, K2, h1, h2, h3, h4⟩
      case measure => simp [intOf]; omega
    · have hn0 : K2 = [] := by
        cases K2 with
        | nil => rfl
        | cons y t => have := HN.out; rw [hKK] at this; simp at this; omega
      subst hn0
      have HO3 : Hid (OwnsR 9 1 wr u3 (CT (keysL K))) := by rw [hKK, List.append_nil]; exact hO1
      clear hO hO1 hf1 hKK k1
      go_wp2_with fail
      go_ret
      exact ⟨_, rfl, HO3.out, hk.out⟩
end
end Go.Proofs.Ytdadloaifebdiaa
/-
  same: the program's outbox and the document's, held against each other.
-/
namespace Go.Proofs.Ytdadloaifebdiaa
set_option maxRecDepth 100000
open Go.RowKit
set_option linter.unusedVariables false
section
variable {w0 w w' : World} {p pf : Nat} {v u : Value} {own : List UInt8} {K : List La} {qs ms : List Yq}
theorem ot_eq {a b : Yq} (h : ot a = ot b) : a.to = b.to ∧ a.q.x = b.q.x := by simpa [ot] using h
theorem ot_at {l1 l2 : List Yq} (h : l1.map ot = l2.map ot) {j : Nat} {a : Yq} (ha : l1[j]? = some a) : ∃ b, l2[j]? = some b ∧ a.to = b.to ∧ a.q.x = b.q.x := by
  have := congrArg (·[j]?) h
  simp only [List.getElem?_map, ha, Option.map_some] at this
  obtain ⟨b, hb, e⟩ := Option.map_eq_some_iff.1 this.symm
  exact ⟨b, hb, ot_eq e.symm⟩
theorem Fitq.of {l1 l2 : List Yq} (h : l1.map ot = l2.map ot) (hf : Fitq l1) : Fitq l2 := fun b hb => by
  obtain ⟨j, hj⟩ := List.getElem?_of_mem hb
  obtain ⟨a, ha, e1, e2⟩ := ot_at h.symm hj
  have := hf a (List.mem_of_getElem? ha)
  rw [e1, e2]
  exact this
theorem len_of {l1 l2 : List Yq} (h : l1.map ot = l2.map ot) : l1.length = l2.length := by simpa using congrArg List.length h
theorem rowT_at {a : Option Addr} {n c : Nat} {l : List (List UInt8)} (h : ReadsR 1 w (.slice a n c) (CT l)) {j : Nat} {y : List UInt8} (hy : l[j]? = some y) : ∃ b o, a = some ⟨b, o, none⟩ ∧ w.cell? ⟨b, o + j, none⟩ = some (Sv y) := by
  obtain ⟨b, o, c', e, hc⟩ := ReadsR.at h j [Sv y] (by simp [CT, hy])
  injection e with e _ _
  have h0 := hc 0 _ rfl
  rw [Nat.mul_one, Nat.add_zero] at h0
  exact ⟨b, o, e, h0⟩
theorem keys_at {j : Nat} {z : La} (hz : K[j]? = some z) : (keysL K)[j]? = some z.k := by simp [keysL, hz]
end
end Go.Proofs.Ytdadloaifebdiaa
