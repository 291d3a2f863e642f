import Derived.Test.YthlemapneangeaaV10
/-
  The document's outbox: set.
-/
namespace Go.Proofs.Ythlemapneangeaa
set_option maxRecDepth 100000
open Go.RowKit
set_option linter.unusedVariables false
theorem flat_set {k : Nat} : ∀ {rs : List (List Value)} (h : Wide k rs) {j : Nat} {r : List Value}, rs[j]? = some r → ∀ (i : Nat) (x : Value), i < k → (rs.set j (r.set i x)).flatten = rs.flatten.set (j * k + i) x
  | [], h, j, r, hj, i, x, hi => by simp at hj
  | s :: rs, h, 0, r, hj, i, x, hi => by
    simp at hj
    subst hj
    have hl := (h s (by simp)).1
    rw [List.set_cons_zero, List.flatten_cons, List.flatten_cons, Nat.zero_mul, Nat.zero_add, List.set_append_left _ _ (by omega)]
  | s :: rs, h, j + 1, r, hj, i, x, hi => by
    have hl := (h s (by simp)).1
    have ih := flat_set (rs := rs) (fun q hq => h q (by simp [hq])) (j := j) (by simpa using hj) i x hi
    rw [List.set_cons_succ, List.flatten_cons, List.flatten_cons, ih, List.set_append_right _ _ (by rw [hl, Nat.add_mul]; omega), hl]
    congr 2
    rw [Nat.add_mul]
    omega
/-- A cell of a row of its own is stored into. -/
theorem OwnsR.set {e : TypeId} {k : Nat} {w : World} {b o n c : Nat} {rs : List (List Value)} (h : OwnsR e k w (.slice (some ⟨b, o, none⟩) n c) rs) (hw : Wide k rs) {j : Nat} {r : List Value} (hj : rs[j]? = some r) {i : Nat} (hi : i < k) (x : Value) :
    o = 0 ∧ w.frozen? ⟨b, j * k + i, none⟩ = false ∧ OwnsR e k (w.setCell ⟨b, j * k + i, none⟩ x) (.slice (some ⟨b, o, none⟩) n c) (rs.set j (r.set i x)) ∧ Kept [b] w (w.setCell ⟨b, j * k + i, none⟩ x) := by
  have hlt := get_lt hj
  rcases h.2 with ⟨h0, -⟩ | ⟨g, cap, cur, e1, hb, hg, h1, h2, h3, h4⟩
  · cases h0
  · injection e1 with e1 e2 e3
    injection e1 with e1
    injection e1 with e1 e4 _
    subst e1 e2 e3 e4
    refine ⟨rfl, by simp [World.frozen?, hg], ⟨?_, .inr ⟨b, c, cur.setIfInBounds (j * k + i) x, by rw [List.length_set], hb, set_at hg, by rw [List.length_set]; exact h1, h2, by rw [Array.size_setIfInBounds]; exact h3, ?_⟩⟩, (Kept.refl [b] w).setCell (p := ⟨b, j * k + i, none⟩) (.inl (by simp)) x⟩
    · rw [flat_set hw hj i x hi, List.length_set, List.length_set]; exact h.1
    · rw [flat_set hw hj i x hi, Array.toList_setIfInBounds, List.length_set, ← h4]
      have hlt2 : j * k + i < rs.length * k := by
        have : (j + 1) * k ≤ rs.length * k := Nat.mul_le_mul_right k hlt
        rw [Nat.add_mul] at this
        omega
      rw [List.take_set]
section
variable {w0 w w' : World} {p pf : Nat} {v u : Value} {own : List UInt8} {K : List La} {qs ms : List Yq}
theorem run_cutH {T e : TypeId} {k b : Nat} {z : Value} (R : RowT T e k b z) (W : World) (a : Option Addr) (n c j : Nat) (hj : j ≤ c) : (Instr.slice T (.slice a n c) none (some (.int .i64 (j : Int))) none).run Try.prog W = .ok (.slice (cutA a c 0 k) j c) W := by
  rw [run_slice_h W T a n c (by rw [R.elem]; exact R.under) .i64 j (by omega) (by omega), R.elem, R.size]
  simp [Result.andThen, sliced, cutA]
theorem run_cutL {T e : TypeId} {k b : Nat} {z : Value} (R : RowT T e k b z) (W : World) (a : Option Addr) (n c i : Nat) (hi : i ≤ n) : (Instr.slice T (.slice a n c) (some (.int .i64 (i : Int))) none none).run Try.prog W = .ok (.slice (cutA a c i k) (n - i) (c - i)) W := by
  rw [run_slice_l W T a n c (by rw [R.elem]; exact R.under) .i64 i (by omega) (by omega), R.elem, R.size]
  simp [Result.andThen, sliced, cutA]
theorem Kept.two {S T : List Nat} {a b c : World} (h : Kept [] a b) (k : Kept T b c) (hT : ∀ x ∈ T, a.heap.size ≤ x) : Kept S a c := (h.trans k (fun x hx => .inr (hT x hx))).mono (by simp)
set_option maxHeartbeats 1000000 in
theorem set65_has (hF : IsF w0 w p v u own K ms) (hK : K.length ≤ 64) (to : List UInt8) (s : Nat) (hh : hasK K to = true) : Calls Try.prog 65 #[.pointer (some ⟨p, 0, none⟩), Sv to, Uv s] w fun e w' => e = .returned (.tuple #[]) ∧ ∃ u', IsF w0 w' p v u' own (setK K to s) ms ∧ Kept (footF p v u) w w' := by
  obtain ⟨a, c, rfl, hc1, hc2⟩ := rowK_form hF.krow
  obtain ⟨x0, x1, x2⟩ := cells3 hF.box
  have HP := Hid.mk (place67 x2 hF.krow to (by omega))
  have HT := Hid.mk (there53 x2 hF.krow to (by omega))
  rw [hh] at HT
  obtain ⟨t, h1, h2⟩ := has_at hh
  obtain ⟨b, o, rfl, d0, d1⟩ := rowK_at hF.krow h1
  have hlt := get_lt h1
  obtain ⟨ho, f1, hO, kO⟩ := hF.ks.set (CK_wide K) (j := pla K to) (r := [Sv to, Uv t]) (by rw [CK, List.getElem?_map, h1]; rfl) (i := 1) (by omega) (Uv s)
  subst ho
  rw [Nat.zero_add] at d0 d1
  have hset : (CK K).set (pla K to) ([Sv to, Uv t].set 1 (Uv s)) = CK (setK K to s) := by
    rw [setK_has s hh, CK, CK, List.map_set]; rfl
  rw [hset] at hO
  have hub : b ≠ p := fun e => by
    subst e
    exact ownsR_ne hF.ks hF.box (by decide) rfl
  have HR : Hid (∃ u', IsF w0 (w.setCell ⟨b, pla K to * 2 + 1, none⟩ (Uv s)) p v u' own (setK K to s) ms ∧ Kept (footF p v (.slice (some ⟨b, 0, none⟩) K.length c)) w (w.setCell ⟨b, pla K to * 2 + 1, none⟩ (Uv s))) := by
    have hkb : Kept (footF p v (.slice (some ⟨b, 0, none⟩) K.length c)) w (w.setCell ⟨b, pla K to * 2 + 1, none⟩ (Uv s)) := kO.mono (fun x hx => .inl (by simp at hx; subst hx; exact mem_footF.2 (.inr (.inr rfl))))
    refine ⟨_, ⟨kO.keeps hF.box (by simp; exact fun e => hub e.symm), hF.ys.kept kO (fun g hg => ?_), hO, fun g hg => hF.fru g hg, hF.fr⟩, hkb⟩
    simp at hg
    subst hg
    exact ⟨fun hg => own_apart hF.ys.own hF.ks (by decide) hg rfl, fun y hy hg => own_apart (hF.ys.args y hy) hF.ks (by decide) hg rfl⟩
  have hI : (pla K to : Int) < (K.length : Int) := by omega
  have hI0 : (0 : Int) ≤ (pla K to : Int) := by omega
  clear hF h1 h2 hO kO hset hh
  generalize pla K to = P at *
  generalize setK K to s = K' at *
  generalize K.length = n at *
  go_enter Try.func65, Try.ntmps65
  go_wp2_with fail
  refine HP.out.mono ?_
  rintro e w1 ⟨rfl, rfl⟩
  go_wp2_with fail
  refine HT.out.mono ?_
  rintro e w1 ⟨rfl, rfl⟩
  go_wp2_with fail
  refine bodyPost_ret (results_none rfl _ _ _) rfl ?_
  exact ⟨rfl, HR.out⟩
set_option maxHeartbeats 1000000 in
theorem set65_new (hF : IsF w0 w p v u own K ms) (hK : K.length ≤ 64) (hs0 : w0.heap.size ≤ w.heap.size) (to : List UInt8) (s : Nat) (hh : hasK K to = false) : Calls Try.prog 65 #[.pointer (some ⟨p, 0, none⟩), Sv to, Uv s] w fun e w' => e = .returned (.tuple #[]) ∧ ∃ u', IsF w0 w' p v u' own (setK K to s) ms ∧ Kept (footF p v u) w w' := by
  obtain ⟨a, c, rfl, hc1, hc2⟩ := rowK_form hF.krow
  obtain ⟨x0, x1, x2⟩ := cells3 hF.box
  have HP := Hid.mk (place67 x2 hF.krow to (by omega))
  have HT := Hid.mk (there53 x2 hF.krow to (by omega))
  rw [hh] at HT
  have hPle := pla_le K to
  have hset := setK_new s hh
  have hpl := hF.lt
  generalize pla K to = P at *
  -- the first append
  have hcut1 := run_cutH rt72 w a K.length c P (by omega)
  have hr1 := ReadsR.cut (k := 2) (i := 0) (j := P) (m := c) (by rw [CK_length]) hF.krow (by omega) hPle (by omega) (Nat.le_refl _)
  rw [List.drop_zero, Nat.sub_zero, Nat.sub_zero] at hr1
  obtain ⟨a1, c1, w1, hrun1, hO1, hg1, hN1⟩ := run_appendR rt72 w 72 (.slice none 0 0) [] (OwnsR.nil 90 2 w) _ ((CK K).take P) (fun r hr => CK_wide K r (List.mem_of_mem_take hr)) hr1 (by rw [List.length_take, CK_length]; simp; omega)
  rw [List.nil_append, List.length_nil, Nat.zero_add, List.length_take, CK_length, Nat.min_eq_left hPle] at *
  have k1 : Kept [] w w1 := (Kept.refl [] w).grown hg1 (by simp [Value.ownBlock])
  have hf1 : Fresh w (.slice a1 P c1) := fun g hg => by rcases hN1 g hg with h | h; simp [Value.ownBlock] at h; exact h
  -- the second
  obtain ⟨a2, c2, w2, hrun2, hO2, k2, hN2⟩ := append_rowR rt72 hO1 [Sv to, Uv s] rfl (fun x hx => by simp at hx; rcases hx with rfl | rfl <;> rfl) (by rw [List.length_take, CK_length]; omega) 90 (0, 0) 72
  rw [List.length_take, CK_length, Nat.min_eq_left hPle] at *
  have hf2 : Fresh w (.slice a2 (P + 1) c2) := fun g hg => by rcases hN2 g hg with h | h; exact hf1 g h; have := k1.size; omega
  have k02 : Kept [] w w2 := k1.two k2 (fun x hx => by rw [Option.mem_toList] at hx; exact hf1 x hx)
  -- the third
  have hcut2 := run_cutL rt72 w2 a K.length c P hPle
  have hkr2 := hF.krow.kept k02 (by simp)
  have hr2 := ReadsR.cut (k := 2) (i := P) (j := K.length) (m := c) (by rw [CK_length]) hkr2 hPle (Nat.le_refl _) (by omega) (Nat.le_refl _)
  rw [List.take_of_length_le (by rw [CK_length]; exact Nat.le_refl _)] at hr2
  obtain ⟨a3, c3, w3, hrun3, hO3, hg3, hN3⟩ := run_appendR rt72 w2 72 _ _ hO2 _ ((CK K).drop P) (fun r hr => CK_wide K r (List.mem_of_mem_drop hr)) hr2 (by rw [List.length_append, List.length_take, List.length_drop, CK_length, List.length_singleton]; omega)
  rw [List.length_append, List.length_take, CK_length, Nat.min_eq_left hPle, List.length_singleton, List.length_drop, CK_length] at *
  have hf3 : Fresh w (.slice a3 (P + 1 + (K.length - P)) c3) := fun g hg => by rcases hN3 g hg with h | h; exact hf2 g h; have := k02.size; omega
  have k03 : Kept [] w w3 := (k02.grown hg3 (fun x hx => .inr (hf2 x hx)))
  have hF3 := hF.kept0 k03
  have hrows : (CK K).take P ++ [[Sv to, Uv s]] ++ (CK K).drop P = CK (setK K to s) := by
    rw [hset]
    simp [CK, cellsK]
  rw [hrows] at hO3
  obtain ⟨y0, y1, y2⟩ := cells3 (k1.keeps hF.box (by simp))
  obtain ⟨z0, z1, z2⟩ := cells3 (k02.keeps hF.box (by simp))
  obtain ⟨t0, t1, t2⟩ := cells3 hF3.box
  obtain ⟨f0, f1, f2⟩ := free3 hF3.box
  have kp := (Kept.refl [p] w3).setCell (p := ⟨p, 2, none⟩) (.inl (by simp)) (.slice a3 (P + 1 + (K.length - P)) c3)
  have HR : Hid (∃ u', IsF w0 (w3.setCell ⟨p, 2, none⟩ (.slice a3 (P + 1 + (K.length - P)) c3)) p v u' own (setK K to s) ms ∧ Kept (footF p v (.slice a K.length c)) w (w3.setCell ⟨p, 2, none⟩ (.slice a3 (P + 1 + (K.length - P)) c3))) := by
    refine ⟨_, ⟨set3_2 hF3.box, hF3.ys.kept kp (fun g hg => ?_), hO3.kept kp (fun g hg hm => ?_), fun g hg => by have := hf3 g hg; omega, hF.fr⟩, (k03.mono (by simp)).trans kp (fun x hx => .inl (by simp at hx; subst hx; exact mem_footF.2 (.inl rfl)))⟩
    · simp at hg
      subst hg
      exact ⟨ownsR_ne hF3.ys.own hF3.box (by decide), fun y hy => ownsJ_ne (hF3.ys.args y hy) hF3.box (by decide)⟩
    · simp at hm
      subst hm
      exact ownsR_ne hO3 hF3.box (by decide) hg
  have hI : (P : Int) ≤ (c : Int) := by omega
  have hI0 : (0 : Int) ≤ (P : Int) := by omega
  have hI1 : (P : Int) ≤ (K.length : Int) := by omega
  clear hF hF3 kp hO3 hrows hf3 k03 hg3 hN3 hr2 hkr2 hO2 k2 hN2 hf2 k02 hO1 hg1 hN1 k1 hf1 hr1 hset hh
  generalize setK K to s = K' at *
  go_enter Try.func65, Try.ntmps65
  go_wp2_with fail
  refine HP.out.mono ?_
  rintro e w5 ⟨rfl, rfl⟩
  go_wp2_with fail
  refine HT.out.mono ?_
  rintro e w5 ⟨rfl, rfl⟩
  go_wp2_with (first | (at_builtin; refine wpList_append_run 72 72 (.tmp 22) (.tmp 28) rfl (by rfl) _ _ rfl rfl _ _ hrun1 ?_) | (at_builtin; refine wpList_append_run 72 72 (.tmp 30) (.tmp 34) rfl (by rfl) _ _ rfl rfl _ _ hrun2 ?_) | (at_builtin; refine wpList_append_run 72 72 (.tmp 37) (.tmp 43) rfl (by rfl) _ _ rfl rfl _ _ hrun3 ?_))
  go_end0
  exact ⟨rfl, HR.out⟩
end
end Go.Proofs.Ythlemapneangeaa
/-
  The document's outbox: Send.
-/
namespace Go.Proofs.Ythlemapneangeaa
set_option maxRecDepth 100000
open Go.RowKit
set_option linter.unusedVariables false
theorem rt71 : RowT 71 75 5 72 (.agg #[.string ⟨#[]⟩, .string ⟨#[]⟩, .int .u64 0, .int .i64 0, .slice none 0 0]) := ⟨Try.underlying71, by kernel_rfl, rfl, by omega, by omega⟩
theorem OwnY.app {w0 w : World} {v : Value} {qs : List Yq} (h : OwnY 75 w0 w v qs) (y : Yq) (hq : OwnsJ w y.q.sl y.q.x.args) (hf : Fresh w0 y.q.sl) (hs : w0.heap.size ≤ w.heap.size) (hn : qs.length ≤ 900000) : ∃ ad c w', (Builtin.append_ #[71, 71] 71 #[v, .slice (some ⟨w.heap.size, 0, none⟩) 1 1]).run Try.prog (w.alloc (.cells #[Sv y.to, Sv y.q.x.fr, .int .u64 (y.q.x.ser : Int), .int .i64 y.q.x.kind, y.q.sl] 75)) = .ok (.slice ad (qs.length + 1) c) w' ∧ OwnY 75 w0 w' (.slice ad (qs.length + 1) c) (qs ++ [y]) ∧ Kept v.ownBlock.toList w w' := by
  obtain ⟨ad, c, w', hrun, ho, k, hN⟩ := append_rowR rt71 h.own (cellsY y) rfl (fun u hu => by simp [cellsY] at hu; rcases hu with rfl | rfl | rfl | rfl | rfl <;> rfl) (by rw [CY_length]; exact hn) 75 (0, 0) 71
  rw [CY_length] at *
  refine ⟨ad, c, w', hrun, ⟨?_, fun z hz => ?_, fun g hg => ?_, fun z hz => ?_⟩, k⟩
  · rw [CY_append]; exact ho
  · have hz' : OwnsJ w z.q.sl z.q.x.args := by
      rcases List.mem_append.1 hz with hz | hz
      · exact h.args z hz
      · simp at hz; subst hz; exact hq
    exact hz'.kept k (fun g hg hm => by rw [Option.mem_toList] at hm; exact own_apart hz' h.own (by decide) hg hm)
  · rcases hN g hg with h1 | h1
    · exact h.fr g h1
    · omega
  · rcases List.mem_append.1 hz with hz | hz
    · exact h.fra z hz
    · simp at hz; subst hz; exact hf
theorem ownR_form {e : TypeId} {k : Nat} {w : World} {v : Value} {rs : List (List Value)} (h : OwnsR e k w v rs) : (v = .slice none 0 0 ∧ rs.length = 0) ∨ ∃ g cap cur, v = .slice (some ⟨g, 0, none⟩) rs.length cap ∧ w.heap[g]? = some (.cells cur e (0, 0)) := by
  rcases h.2 with ⟨rfl, h0⟩ | ⟨g1, cap, cur, rfl, _, hb, _⟩
  · exact .inl ⟨rfl, h0⟩
  · exact .inr ⟨g1, cap, cur, rfl, hb⟩
section
variable {w0 w w' : World} {p pf : Nat} {v u : Value} {own : List UInt8} {K : List La} {qs ms : List Yq}
theorem set65 (hF : IsF w0 w p v u own K ms) (hK : K.length ≤ 64) (hs0 : w0.heap.size ≤ w.heap.size) (to : List UInt8) (s : Nat) : Calls Try.prog 65 #[.pointer (some ⟨p, 0, none⟩), Sv to, Uv s] w fun e w' => e = .returned (.tuple #[]) ∧ ∃ u', IsF w0 w' p v u' own (setK K to s) ms ∧ Kept (footF p v u) w w' := by
  cases h : hasK K to with
  | true => exact set65_has hF hK to s h
  | false => exact set65_new hF hK hs0 to s h
theorem send29_arg (to : List UInt8) (kind : Int) (a : Option Addr) (n c : Nat) (pp : Option Addr) (hl : to.length ≤ 281474976710656) (hn : n ≤ 1000000) (h : isKey to = false ∨ 4 < n) :
    Calls Try.prog 29 #[.pointer pp, Sv to, .int .i64 kind, .slice a n c] w fun e w' => e = .returned (.tuple #[Uv 0, .int .i64 1]) ∧ w = w' := by
  have HK := Hid.mk (key28 (w := w) to hl)
  cases hk : isKey to with
  | false =>
    rw [hk] at HK
    clear h hk
    go_enter Try.func29, Try.ntmps29
    go_wp2_with fail
    refine HK.out.mono ?_
    rintro e w1 ⟨rfl, rfl⟩
    go_wp2_with fail
    go_ret2
    exact ⟨rfl, rfl⟩
  | true =>
    rw [hk] at HK h
    have g4 : (4 : Int) < (n : Int) := by rcases h with h | h; cases h; omega
    clear h hk
    go_enter Try.func29, Try.ntmps29
    go_wp2_with fail
    refine HK.out.mono ?_
    rintro e w1 ⟨rfl, rfl⟩
    go_wp2_with fail
    go_ret2
    exact ⟨rfl, rfl⟩
set_option maxHeartbeats 1000000 in
theorem send29_full (hF : IsF w0 w p v u own K ms) (hK : K.length ≤ 64) (hm : ms.length ≤ 32) (to : List UInt8) (kind : Int) (a : Option Addr) (n c : Nat) (hk : isKey to = true) (hn : n ≤ 4) (h : ms.length = 32 ∨ (hasK K to = false ∧ K.length = 64)) :
    Calls Try.prog 29 #[.pointer (some ⟨p, 0, none⟩), Sv to, .int .i64 kind, .slice a n c] w fun e w' => e = .returned (.tuple #[Uv 0, .int .i64 6]) ∧ w = w' := by
  have hkl := (isKey_iff to).1 hk
  have HK := Hid.mk (key28 (w := w) to (by omega))
  rw [hk] at HK
  obtain ⟨au, cu, rfl, hc1, hc2⟩ := rowK_form hF.krow
  obtain ⟨av, cv, rfl, hv1, hv2⟩ := rowY_form hF.ys.row
  obtain ⟨x0, x1, x2⟩ := cells3 hF.box
  have HT := Hid.mk (there53 x2 hF.krow to (by omega))
  have g4 : ((4 : Int) < (n : Int)) = False := eq_false (by omega)
  by_cases h32 : ms.length = 32
  · have g32 : (32 : Int) ≤ (ms.length : Int) := by omega
    clear h hF h32 hk hkl
    go_enter Try.func29, Try.ntmps29
    go_wp2_with fail
    refine HK.out.mono ?_
    rintro e w1 ⟨rfl, rfl⟩
    go_wp2_with fail
    go_ret2
    exact ⟨rfl, rfl⟩
  · have h2 : hasK K to = false ∧ K.length = 64 := by rcases h with h | h; exact absurd h h32; exact h
    rw [h2.1] at HT
    have g64 : (64 : Int) ≤ (K.length : Int) := by omega
    have g32 : ((32 : Int) ≤ (ms.length : Int)) = False := eq_false (by omega)
    clear h hF h32 hk hkl h2
    go_enter Try.func29, Try.ntmps29
    go_wp2_with fail
    refine HK.out.mono ?_
    rintro e w1 ⟨rfl, rfl⟩
    go_wp2_with fail
    refine HT.out.mono ?_
    rintro e w1 ⟨rfl, rfl⟩
    go_wp2_with fail
    go_ret2
    exact ⟨rfl, rfl⟩
set_option maxHeartbeats 2000000 in
theorem send29_ok (hF : IsF w0 w p v u own K ms) (hK : K.length ≤ 64) (hs0 : w0.heap.size ≤ w.heap.size) (to : List UInt8) (x : Lt) (a : Option Addr) (c : Nat) (hk : isKey to = true) (hn : x.args.length ≤ 4) (hx : ∀ W, Kept (footF p v u) w W → ReadsJ W (.slice a x.args.length c) x.args) (hfr : x.fr = own) (hser : x.ser = ser K to + 1) (h32 : ms.length < 32) (h64 : hasK K to = true ∨ K.length < 64) (hs : ser K to + 1 < 18446744073709551616) :
    Calls Try.prog 29 #[.pointer (some ⟨p, 0, none⟩), Sv to, .int .i64 x.kind, .slice a x.args.length c] w fun e w' => e = .returned (.tuple #[Uv (ser K to + 1), .int .i64 0]) ∧ ∃ v' u' a' c', IsF w0 w' p v' u' own (setK K to (ser K to + 1)) (ms ++ [⟨to, x, a', c'⟩]) ∧ Kept (footF p v u) w w' := by
  have hkl := (isKey_iff to).1 hk
  have HK := Hid.mk (key28 (w := w) to (by omega))
  rw [hk] at HK
  have HSET : Hid (∀ W, Kept [] w W → Calls Try.prog 65 #[.pointer (some ⟨p, 0, none⟩), Sv to, Uv x.ser] W fun e w' => e = .returned (.tuple #[]) ∧ ∃ u', IsF w0 w' p v u' own (setK K to x.ser) ms ∧ Kept (footF p v u) W w') := fun W k => set65 (hF.kept0 k) hK (by have := k.size; omega) to x.ser
  obtain ⟨au, cu, rfl, hc1, hc2⟩ := rowK_form hF.krow
  obtain ⟨av, cv, rfl, hv1, hv2⟩ := rowY_form hF.ys.row
  obtain ⟨x0, x1, x2⟩ := cells3 hF.box
  have HT := Hid.mk (there53 x2 hF.krow to (by omega))
  have HSR := Hid.mk (serial33 x2 hF.krow to (by omega))
  have g4 : ((4 : Int) < (x.args.length : Int)) = False := eq_false (by omega)
  have g32 : ((32 : Int) ≤ (ms.length : Int)) = False := eq_false (by omega)
  have HXP : Hid (∀ W, Kept (footF p (.slice av ms.length cv) (.slice au K.length cu)) w W → ReadsJ W (.slice a x.args.length c) x.args) := fun W k => hx W k
  have HSER := Hid.mk hser
  have HF := Hid.mk hF
  have hol : True := trivial
  have hSS : Hid (ser K to < 18446744073709551615) := Hid.mk (by omega)
  have g64 : hasK K to = false → ((64 : Int) ≤ (K.length : Int)) = False := fun h => eq_false (by rcases h64 with h' | h'; rw [h] at h'; cases h'; omega)
  rw [← hser]
  have hK2 : Hid (∃ K', setK K to x.ser = K') := ⟨_, rfl⟩
  obtain ⟨K', hK'⟩ := hK2.out
  rw [hK'] at HSET ⊢
  rw [← hfr] at HSET HF ⊢
  rw [← hfr] at x0
  have hsI : (ser K to : Int) + 1 = (x.ser : Int) := by rw [hser]; rfl
  have hs1 : (ser K to : Int) < 18446744073709551615 := by have := hSS.out; omega
  have g64 : Hid (hasK K to = false → ((64 : Int) ≤ (K.length : Int)) = False) := fun h => eq_false (by rcases h64 with h' | h'; rw [h] at h'; cases h'; omega)
  have HF0 := Hid.mk HF.out
  clear hF hk hkl hK' hK2 hx hfr hser h64 hs HSER hSS HF
  generalize ser K to = S at *
  generalize hasK K to = A at *
  have gg : A = true ∨ (A = false ∧ ((64 : Int) ≤ (K.length : Int)) = False) := by cases A; exact .inr ⟨rfl, g64.out rfl⟩; exact .inl rfl
  clear g64
  go_enter Try.func29, Try.ntmps29
  rcases gg with rfl | ⟨rfl, g64⟩
  all_goals
    go_wp2_with fail
    refine HK.out.mono ?_
    rintro e w1 ⟨rfl, rfl⟩
    go_wp2_with fail
    refine HT.out.mono ?_
    rintro e w1 ⟨rfl, rfl⟩
    go_wp2_with fail
    refine HSR.out.mono ?_
    rintro e w1 ⟨rfl, k1⟩
    go_wp2_with fail
    refine (HSET.out _ k1).mono ?_
    rintro e w3 ⟨rfl, u3, hF3, k3⟩
    have k03 : Kept (footF p (.slice av ms.length cv) (.slice au K.length cu)) w w3 := (k1.mono (by simp)).trans k3 (fun x hx => .inl hx)
    have kd := k03.drew
    have hFd := hF3.kept0 (Kept.refl [] w3).drew
    obtain ⟨y0, y1, y2⟩ := cells3 hFd.box
    have HC := Hid.mk (copy25 x a c (HXP.out _ kd) (by omega))
    have HFD := Hid.mk hFd
    have HKD := Hid.mk kd
    clear hFd hF3 k3 k03 kd x0 x1 x2
    go_wp2_with fail
    go_region_law (first | (refine step_append_run 71 (.tmp 51) (.tmp 63) (by rfl) (by rfl) _ _ (by rfl) (by rfl) hrun ?_) | ((try go_simp); go_at_call 66; refine HC.out.mono ?_; rintro e w5 ⟨a5, c5, rfl, hO5, k5, hf5⟩; obtain ⟨a6, c6, w6, hrun, hO6, k6⟩ := (HFD.out.ys.kept0 k5).app ⟨to, x, a5, c5⟩ hO5 (fun g hg => by have := hf5 g hg; have := HKD.out.size; omega) (by have := k5.size; have := HKD.out.size; omega) (by omega); have hF5 := HFD.out.kept0 k5; have h6 := k6.keeps hF5.box (by rw [Option.mem_toList]; exact ownsR_ne hF5.ys.own hF5.box (by decide)); obtain ⟨q0, q1, q2⟩ := cells3 h6; obtain ⟨qf0, qf1, qf2⟩ := free3 h6; have q5 := (cells3 hF5.box).2.1; have q6 := ((Kept.refl [] w5).alloc (.cells #[Sv to, Sv x.fr, .int .u64 (x.ser : Int), .int .i64 x.kind, .slice a5 x.args.length c5] 75)).cell_eq q5; clear hF5))
    all_goals
      have HR : Hid (IsF w0 (w6.setCell ⟨p, 1, none⟩ (.slice a6 (ms.length + 1) c6)) p (.slice a6 (ms.length + 1) c6) u3 x.fr K' (ms ++ [⟨to, x, a5, c5⟩]) ∧ Kept (footF p (.slice av ms.length cv) (.slice au K.length cu)) w (w6.setCell ⟨p, 1, none⟩ (.slice a6 (ms.length + 1) c6))) := by
        have kp := (Kept.refl [p] w6).setCell (p := ⟨p, 1, none⟩) (.inl (by simp)) (.slice a6 (ms.length + 1) c6)
        have hks := (HFD.out.ks.kept k5 (by simp)).kept k6 (fun g hg hm => by rw [Option.mem_toList] at hm; exact own_apart (HFD.out.kept0 k5).ks (HFD.out.kept0 k5).ys.own (by decide) hg hm)
        refine ⟨⟨set3_1 h6, hO6.kept kp (fun g hg => ?_), hks.kept kp (fun g hg hm => ?_), HFD.out.fru, HFD.out.fr⟩, ?_⟩
        · simp at hg
          subst hg
          exact ⟨ownsR_ne hO6.own h6 (by decide), fun q hq => ownsJ_ne (hO6.args q hq) h6 (by decide)⟩
        · simp at hm
          subst hm
          exact ownsR_ne hks h6 (by decide) hg
        · exact ((HKD.out.trans k5 (by simp)).trans k6 (fun y hy => .inl (mem_footF.2 (.inr (.inl (by rw [Option.mem_toList] at hy; exact hy)))))).setCell (p := ⟨p, 1, none⟩) (.inl (mem_footF.2 (.inl rfl))) _
      clear hO6 k6 h6 hO5 k5 hf5 q0 q1 q2 qf0 qf1 qf2 q5 q6 hrun
      go_wp2_with fail
      go_ret2
      exact ⟨rfl, _, _, _, _, HR.out⟩
end
end Go.Proofs.Ythlemapneangeaa
/-
  The document's outbox: Pop, Keys.
-/
namespace Go.Proofs.Ythlemapneangeaa
set_option maxRecDepth 100000
open Go.RowKit
set_option linter.unusedVariables false
section
variable {w0 w w' : World} {p pf : Nat} {v u : Value} {own : List UInt8} {K : List La} {qs ms : List Yq}
theorem pop30_none (hF : IsF w0 w p v u own K []) : Calls Try.prog 30 #[.pointer (some ⟨p, 0, none⟩)] w fun e w' => e = .returned (.tuple #[Yv [] zx none 0, .bool false]) ∧ Kept [] w w' := by
  obtain ⟨av, cv, rfl, hv1, hv2⟩ := rowY_form hF.ys.row
  obtain ⟨x0, x1, x2⟩ := cells3 hF.box
  have hlt := hF.lt
  clear hF
  go_enter Try.func30, Try.ntmps30
  go_wp2_with fail
  refine bodyPost_ret (results_cell_row2 (p := 2) (u := 3) (ty := 75) rfl _ _ w.heap.size 75 _ (0, 0) _ rfl (heap_alloc_new w _) Try.underlying75 rfl (by kernel_rfl) _ rfl) rfl ?_
  exact ⟨rfl, (Kept.refl [] w).alloc _⟩
theorem cutY {b o cv : Nat} {q : Yq} {t : List Yq} (h : ReadsR 5 w (.slice (some ⟨b, o, none⟩) (t.length + 1) cv) (CY (q :: t))) : ReadsR 5 w (.slice (if cv = 1 then some ⟨b, o, none⟩ else some ⟨b, o + 5, none⟩) t.length (cv - 1)) (CY t) := by
  obtain ⟨_, _, e, hb1, hb2⟩ := rowY_form h
  injection e with _ _ e
  subst e
  have := ReadsR.cut (k := 5) (i := 1) (j := t.length + 1) (m := cv) (by rw [CY_length]; rfl) h (by omega) (Nat.le_refl _) hb1 (Nat.le_refl _)
  have e : ((CY (q :: t)).take (t.length + 1)).drop 1 = CY t := by
    rw [List.take_of_length_le (by rw [CY_length]; simp)]
    rfl
  rw [e] at this
  unfold cutA at this
  rw [Option.map_some, add_at] at this
  exact this
set_option maxHeartbeats 1000000 in
theorem pop30_some {q : Yq} {t : List Yq} (hF : IsF w0 w p v u own K (q :: t)) (h8 : t.length ≤ 1000) (hs : w0.heap.size ≤ w.heap.size) : Calls Try.prog 30 #[.pointer (some ⟨p, 0, none⟩)] w fun e w' => e = .returned (.tuple #[Yv q.to q.q.x q.q.ad q.q.cap, .bool true]) ∧ ∃ v', IsF w0 w' p v' u own K t ∧ OwnsJ w' q.q.sl q.q.x.args ∧ Kept [p] w w' := by
  obtain ⟨av, cv, rfl, hv1, hv2⟩ := rowY_form hF.ys.row
  obtain ⟨hc0, hc, hc2⟩ := cells3 hF.box
  obtain ⟨b, o, rfl, d0, d1, d2, d3, d4⟩ := rowY_at hF.ys.row (j := 0) (y := q) rfl
  have hlt := hF.lt
  have hlb : b < w.heap.size := World.block_lt_of_cell? w _ d0
  have HF := Hid.mk hF
  clear hF hc0 hc2
  rw [Nat.zero_mul, Nat.add_zero] at *
  rw [List.length_cons] at *
  obtain ⟨W0, e0, k0, hz0, hb0, hb1⟩ := box2 w (.cells #[.string { data := #[] }, .string { data := #[] }, .int .u64 0, .int .i64 0, .slice none 0 0] 75) (.cells #[Sv q.to, Sv q.q.x.fr, .int .u64 (q.q.x.ser : Int), .int .i64 q.q.x.kind, q.q.sl] 75)
  have hO : OwnsR 75 5 (W0.alloc (.cells #[] 75)) (.slice (some ⟨w.heap.size + 2, 0, none⟩) 0 0) [] := by
    have := World.ownsRow_made (base := 0) (e := 75) (size := 5) W0 #[] 0 (Nat.zero_le _) (by simp) (by simp)
    rw [hz0] at this
    exact this
  have k1 := k0.alloc (.cells #[] 75)
  have hb2 : (W0.alloc (.cells #[] 75)).heap[w.heap.size]? = _ := (Below.heap_alloc _ _ _ (by omega)).trans hb0
  have hb3 : (W0.alloc (.cells #[] 75)).heap[w.heap.size + 1]? = _ := (Below.heap_alloc _ _ _ (by omega)).trans hb1
  have HZ : Hid (w.heap.size + 3 = (W0.alloc (.cells #[] 75)).heap.size) := Hid.mk (by simp [hz0])
  have hcA := k1.cell_eq hc
  rw [← e0] at hO k1 hb2 hb3 HZ hcA
  have hcut := cutY (HF.out.ys.row.kept k1 (by simp))
  obtain ⟨a2, c2, w2, hrun, ho, hg, hN⟩ := run_appendR rt71 _ 71 _ [] hO _ (CY t) (CY_wide t) hcut (by rw [CY_length]; simp; omega)
  rw [List.nil_append, List.length_nil, Nat.zero_add, CY_length] at *
  have k2 : Kept [] w w2 := k1.grown hg (by simp [Value.ownBlock])
  have hb4 : w2.heap[w.heap.size]? = _ := (hg.block w.heap.size (by have := HZ.out; omega) (by simp [Value.ownBlock])).trans hb2
  have hb5 : w2.heap[w.heap.size + 1]? = _ := (hg.block (w.heap.size + 1) (by have := HZ.out; omega) (by simp [Value.ownBlock])).trans hb3
  have hF2 := HF.out.kept0 k2
  obtain ⟨hcp0, hcp, hcp2⟩ := cells3 hF2.box
  obtain ⟨hfp0, hfp, hfp2⟩ := free3 hF2.box
  obtain ⟨x0, x1, x2, x3, x4⟩ := cells5 hb4
  obtain ⟨f0, f1, f2, f3, f4⟩ := free5 hb4
  obtain ⟨y0, y1, y2, y3, y4⟩ := cells5 hb5
  have hfr : Hid (Fresh w0 (.slice a2 t.length c2)) := fun g hg' => by
    rcases hN g hg' with h | h
    · simp [Value.ownBlock] at h; omega
    · have := HZ.out; omega
  have H2 : Hid (IsF w0 (w2.setCell ⟨p, 1, none⟩ (.slice a2 t.length c2)) p (.slice a2 t.length c2) u own K t ∧ OwnsJ (w2.setCell ⟨p, 1, none⟩ (.slice a2 t.length c2)) q.q.sl q.q.x.args ∧ Kept [p] w (w2.setCell ⟨p, 1, none⟩ (.slice a2 t.length c2)) ∧ (w2.setCell ⟨p, 1, none⟩ (.slice a2 t.length c2)).heap[w.heap.size]? = some (.cells #[.string { data := #[] }, .string { data := #[] }, .int .u64 0, .int .i64 0, .slice none 0 0] 75 (0, 0))) := by
    have kp := (Kept.refl [p] w2).setCell (p := ⟨p, 1, none⟩) (.inl (by simp)) (.slice a2 t.length c2)
    have hap : ∀ y ∈ q :: t, OwnsJ (w2.setCell ⟨p, 1, none⟩ (.slice a2 t.length c2)) y.q.sl y.q.x.args := fun y hy => (hF2.ys.args y hy).kept kp (fun g hg' hm => by simp at hm; subst hm; exact ownsJ_ne (hF2.ys.args y hy) hF2.box (by decide) hg')
    refine ⟨⟨set3_1 hF2.box, ⟨?_, fun y hy => hap y (by simp [hy]), hfr.out, fun y hy => HF.out.ys.fra y (by simp [hy])⟩, hF2.ks.kept kp (fun g hg' hm => by simp at hm; subst hm; exact ownsR_ne hF2.ks hF2.box (by decide) hg'), HF.out.fru, HF.out.fr⟩, hap q (by simp), (k2.mono (by simp)).trans kp (by simp), kp.keeps hb4 (by simp; omega)⟩
    exact OwnsR.kept ho kp (fun g hg' hm => by simp at hm; subst hm; exact ownsR_ne ho hF2.box (by decide) hg')
  have HT : Hid (∃ W8, (((((w2.setCell ⟨p, 1, none⟩ (.slice a2 t.length c2)).setCell ⟨w.heap.size, 0, none⟩ (Sv q.to)).setCell ⟨w.heap.size, 1, none⟩ (Sv q.q.x.fr)).setCell ⟨w.heap.size, 2, none⟩ (.int .u64 (q.q.x.ser : Int))).setCell ⟨w.heap.size, 3, none⟩ (.int .i64 q.q.x.kind)).setCell ⟨w.heap.size, 4, none⟩ q.q.sl = W8 ∧ W8.heap[w.heap.size]? = some (.cells #[Sv q.to, Sv q.q.x.fr, .int .u64 (q.q.x.ser : Int), .int .i64 q.q.x.kind, q.q.sl] 75 (0, 0)) ∧ IsF w0 W8 p (.slice a2 t.length c2) u own K t ∧ OwnsJ W8 q.q.sl q.q.x.args ∧ Kept [p] w W8) := by
    obtain ⟨i1, i2, i3, i4⟩ := H2.out
    obtain ⟨W8, e8, k8, h8, -⟩ := put5 i4 (Sv q.to) (Sv q.q.x.fr) (.int .u64 (q.q.x.ser : Int)) (.int .i64 q.q.x.kind) q.q.sl
    have hks : u.ownBlock ≠ some w.heap.size := fun hg' => by
      rcases ownR_form HF.out.ks with ⟨rfl, -⟩ | ⟨g, cap, cur, rfl, hgb⟩
      · simp [Value.ownBlock] at hg'
      · simp [Value.ownBlock] at hg'
        have := lt_of_block hgb
        omega
    refine ⟨W8, e8, h8, ⟨k8.keeps i1.box (by simp; omega), i1.ys.kept k8 (fun y hy => ?_), i1.ks.kept k8 (fun g hg' hm => by simp at hm; subst hm; exact hks hg'), i1.fru, i1.fr⟩, i2.kept k8 (fun g hg' hm => ?_), i3.trans k8 (by simp)⟩
    · simp at hy
      subst hy
      refine ⟨fun hh => ?_, fun y hy => ownsJ_ne (i1.ys.args y hy) i4 (by decide)⟩
      rcases hN _ hh with h | h
      · simp [Value.ownBlock] at h
      · have := HZ.out; omega
    · simp at hm; subst hm; exact ownsJ_ne i2 i4 (by decide) hg'
  have hpn : p ≠ w.heap.size := by omega
  have hpn1 : p ≠ w.heap.size + 1 := by omega
  clear hF2 hb4 hb5 hb2 hb3 hO hg hN k1 k0 hb0 hb1 e0 HZ ho hz0 k2 hcp0 hcp2 hfp0 hfp2
  by_cases hcv : cv = 1
  · subst hcv
    rw [if_pos rfl] at hrun
    have ht0 : t = [] := List.eq_nil_of_length_eq_zero (by omega)
    subst ht0
    go_enter Try.func30, Try.ntmps30
    go_wp2_with (at_builtin; refine wpList_append_run 71 71 _ _ rfl (by rfl) _ _ rfl rfl _ _ hrun ?_)
    obtain ⟨W8, e8, h9, j1, j2, j3⟩ := HT.out
    refine Eq.mpr (congrArg (bodyPost Try.prog Try.f30 _ _ _) e8) ?_
    refine bodyPost_ret (results_cell_row2 (p := 2) (u := 3) (ty := 75) rfl _ _ w.heap.size 75 _ (0, 0) _ rfl h9 Try.underlying75 rfl (by kernel_rfl) _ rfl) rfl ?_
    first | exact ⟨rfl, _, j1, j2, j3⟩ | exact ⟨rfl, ⟨_, j1⟩, j2, j3⟩
  · rw [if_neg hcv] at hrun
    go_enter Try.func30, Try.ntmps30
    go_wp2_with (at_builtin; refine wpList_append_run 71 71 _ _ rfl (by rfl) _ _ rfl rfl _ _ hrun ?_)
    obtain ⟨W8, e8, h9, j1, j2, j3⟩ := HT.out
    refine Eq.mpr (congrArg (bodyPost Try.prog Try.f30 _ _ _) e8) ?_
    refine bodyPost_ret (results_cell_row2 (p := 2) (u := 3) (ty := 75) rfl _ _ w.heap.size 75 _ (0, 0) _ rfl h9 Try.underlying75 rfl (by kernel_rfl) _ rfl) rfl ?_
    first | exact ⟨rfl, _, j1, j2, j3⟩ | exact ⟨rfl, ⟨_, j1⟩, j2, j3⟩
/-- Texts in rows of one cell each. -/
def CT (l : List (List UInt8)) : List (List Value) := l.map fun s => [Sv s]
theorem CT_length (l : List (List UInt8)) : (CT l).length = l.length := by simp [CT]
theorem CT_append (a b : List (List UInt8)) : CT (a ++ b) = CT a ++ CT b := by simp [CT]
theorem CT_wide (l : List (List UInt8)) : Wide 1 (CT l) := fun r hr => by
  simp only [CT, List.mem_map] at hr
  obtain ⟨s, -, rfl⟩ := hr
  exact ⟨rfl, fun x hx => by simp at hx; subst hx; rfl⟩
theorem rt103 : RowT 103 9 1 16 (.string ⟨#[]⟩) := ⟨Try.underlying103, by kernel_rfl, rfl, by omega, by omega⟩
def keysL (K : List La) : List (List UInt8) := K.map (·.k)
set_option maxHeartbeats 1000000 in
theorem keys57 {a : Option Addr} {n c : Nat} (hb : w.cell? ⟨p, 2, none⟩ = some (.slice a n c)) (hr : ReadsR 2 w (.slice a n c) (CK K)) (hn : n ≤ 1000) : Calls Try.prog 57 #[.pointer (some ⟨p, 0, none⟩)] w fun e w' => ∃ v, e = .returned v ∧ OwnsR 9 1 w' v (CT (keysL K)) ∧ Kept [] w w' := by
  obtain ⟨a', c', e, h1, h2⟩ := rowK_form hr
  injection e with e1 e2 e3
  subst e1 e3
  have HN := Hid.mk e2
  have HR := Hid.mk hr
  have HB := Hid.mk hb
  clear hr e2 h1
  go_enter Try.func57, Try.ntmps57
  go_wp2_with fail
  go_loopw [3, 10] (fun x i wr => ∃ j : Nat, i = .int .i64 (j : Int) ∧ j ≤ n ∧ Hid (∃ K1 K2, K = K1 ++ K2 ∧ K1.length = j ∧ OwnsR 9 1 wr x (CT (keysL K1)) ∧ Fresh w x) ∧ Hid (Kept [] w wr)) (fun x i _ => n - (intOf i).toNat)
  case atStart => exact ⟨0, rfl, by omega, Hid.mk ⟨[], K, rfl, rfl, OwnsR.nil 9 1 _, fresh_nil _ _⟩, Hid.mk (Kept.refl [] _)⟩
  case round =>
    obtain ⟨j, rfl, hj, hO, hk⟩ := hrel
    obtain ⟨K1, K2, hKK, hK1, hO1, hf1⟩ := hO.out
    have k1 := hk.out
    by_cases hlt : j < n
    · obtain ⟨y, t, rfl⟩ : ∃ y t, K2 = y :: t := by
        cases K2 with
        | nil => have := HN.out; rw [hKK] at this; simp at this; omega
        | cons y t => exact ⟨y, t, rfl⟩
      have hy : K[j]? = some y := by rw [hKK, ← hK1]; simp
      obtain ⟨b, o, rfl, d0, d1⟩ := rowK_at (HR.out.kept k1 (by simp)) hy
      have hb' := k1.cell_eq HB.out
      obtain ⟨a2, c2, w2, hrun, hO2, k2, hN2⟩ := append_rowR rt103 hO1 [Sv y.k] rfl (fun x hx => by simp at hx; subst hx; rfl) (by rw [CT_length, keysL, List.length_map]; omega) 9 (0, 0) 103
      have hL : (CT (keysL K1)).length = j := by rw [CT_length, keysL, List.length_map]; exact hK1
      obtain ⟨ax, nx, cx, rfl⟩ : ∃ ax nx cx, u3 = .slice ax nx cx := by
        rcases ownR_form hO1 with ⟨rfl, -⟩ | ⟨g, cap, cur, rfl, -⟩
        · exact ⟨_, _, _, rfl⟩
        · exact ⟨_, _, _, rfl⟩
      have HO2 : Hid (∃ K1 K2, K = K1 ++ K2 ∧ K1.length = j + 1 ∧ OwnsR 9 1 w2 (.slice a2 ((CT (keysL K1)).length) c2) (CT (keysL K1)) ∧ Fresh w (.slice a2 ((CT (keysL K1)).length) c2)) := by
        refine ⟨K1 ++ [y], t, by rw [hKK]; simp, by simp [hK1], ?_, ?_⟩
        · have e : CT (keysL (K1 ++ [y])) = CT (keysL K1) ++ [[Sv y.k]] := by simp [CT, keysL]
          rw [e, List.length_append]
          exact hO2
        · have e : (CT (keysL (K1 ++ [y]))).length = (CT (keysL K1)).length + 1 := by simp [CT, keysL]
          rw [e]
          intro g hg
          rcases hN2 g hg with h | h
          · exact hf1 g h
          · have := k1.size; omega
      have HK2 : Hid (Kept [] w w2) := (k1.trans k2 (fun x hx => .inr (hf1 x (by rw [Option.mem_toList] at hx; exact hx))))
      have hjI : (j : Int) < (n : Int) := by omega
      rw [hL] at hrun
      have HL1 : Hid (∀ K1 K2 : List La, K = K1 ++ K2 → K1.length = j + 1 → (CT (keysL K1)).length = j + 1) := fun K1 K2 _ h => by rw [CT_length, keysL, List.length_map]; exact h
      clear hO hk hO1 hf1 k1 hO2 k2 hN2 hKK hK1 hL hy
      go_wp2_with (at_builtin; refine wpList_append_run 103 103 _ _ rfl (by rfl) _ _ rfl rfl _ _ hrun ?_)
      go_roundw
      case rel =>
        refine ⟨j + 1, by go_num, by omega, Hid.mk ?_, HK2⟩
        obtain ⟨K1, K2, h1, h2, h3, h4⟩ := HO2.out
        have := HL1.out K1 K2 h1 h2
        rw [this] at h3 h4
        exact ⟨K1, K2, h1, h2, h3, h4⟩
      case measure => simp [intOf]; omega
    · have hn0 : K2 = [] := by
        cases K2 with
        | nil => rfl
        | cons y t => have := HN.out; rw [hKK] at this; simp at this; omega
      subst hn0
      have HO3 : Hid (OwnsR 9 1 wr u3 (CT (keysL K))) := by rw [hKK, List.append_nil]; exact hO1
      clear hO hO1 hf1 hKK k1
      go_wp2_with fail
      go_ret
      exact ⟨_, rfl, HO3.out, hk.out⟩
end
end Go.Proofs.Ythlemapneangeaa
