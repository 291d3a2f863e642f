import Derived.Test.YtdadloaifebdiaaGreatQ17
/-
  The document's outbox: set.
-/
namespace Go.Proofs.YtdadloaifebdiaaGreat
set_option maxRecDepth 100000
open Go.RowKit
set_option linter.unusedVariables false
theorem flat_set {k : Nat} : ∀ {rs : List (List Value)} (h : Wide k rs) {j : Nat} {r : List Value}, rs[j]? = some r → ∀ (i : Nat) (x : Value), i < k → (rs.set j (r.set i x)).flatten = rs.flatten.set (j * k + i) x
  | [], h, j, r, hj, i, x, hi => by simp at hj
  | s :: rs, h, 0, r, hj, i, x, hi => by
    simp at hj
    subst hj
    have hl := (h s (by simp)).1
    rw [List.set_cons_zero, List.flatten_cons, List.flatten_cons, Nat.zero_mul, Nat.zero_add, List.set_append_left _ _ (by omega)]
  | s :: rs, h, j + 1, r, hj, i, x, hi => by
    have hl := (h s (by simp)).1
    have ih := flat_set (rs := rs) (fun q hq => h q (by simp [hq])) (j := j) (by simpa using hj) i x hi
    rw [List.set_cons_succ, List.flatten_cons, List.flatten_cons, ih, List.set_append_right _ _ (by rw [hl, Nat.add_mul]; omega), hl]
    congr 2
    rw [Nat.add_mul]
    omega
/-- A cell of a row of its own is stored into. -/
theorem OwnsR.set {e : TypeId} {k : Nat} {w : World} {b o n c : Nat} {rs : List (List Value)} (h : OwnsR e k w (.slice (some ⟨b, o, none⟩) n c) rs) (hw : Wide k rs) {j : Nat} {r : List Value} (hj : rs[j]? = some r) {i : Nat} (hi : i < k) (x : Value) :
    o = 0 ∧ w.frozen? ⟨b, j * k + i, none⟩ = false ∧ OwnsR e k (w.setCell ⟨b, j * k + i, none⟩ x) (.slice (some ⟨b, o, none⟩) n c) (rs.set j (r.set i x)) ∧ Kept [b] w (w.setCell ⟨b, j * k + i, none⟩ x) := by
  have hlt := get_lt hj
  rcases h.2 with ⟨h0, -⟩ | ⟨g, cap, cur, e1, hb, hg, h1, h2, h3, h4⟩
  · cases h0
  · injection e1 with e1 e2 e3
    injection e1 with e1
    injection e1 with e1 e4 _
    subst e1 e2 e3 e4
    refine ⟨rfl, by simp [World.frozen?, hg], ⟨?_, .inr ⟨b, c, cur.setIfInBounds (j * k + i) x, by rw [List.length_set], hb, set_at hg, by rw [List.length_set]; exact h1, h2, by rw [Array.size_setIfInBounds]; exact h3, ?_⟩⟩, (Kept.refl [b] w).setCell (p := ⟨b, j * k + i, none⟩) (.inl (by simp)) x⟩
    · rw [flat_set hw hj i x hi, List.length_set, List.length_set]; exact h.1
    · rw [flat_set hw hj i x hi, Array.toList_setIfInBounds, List.length_set, ← h4]
      have hlt2 : j * k + i < rs.length * k := by
        have : (j + 1) * k ≤ rs.length * k := Nat.mul_le_mul_right k hlt
        rw [Nat.add_mul] at this
        omega
      rw [List.take_set]
section
variable {w0 w w' : World} {p pf : Nat} {v u : Value} {own : List UInt8} {K : List La} {qs ms : List Yq}
theorem run_cutH {T e : TypeId} {k b : Nat} {z : Value} (R : RowT T e k b z) (W : World) (a : Option Addr) (n c j : Nat) (hj : j ≤ c) : (Instr.slice T (.slice a n c) none (some (.int .i64 (j : Int))) none).run Tryz.prog W = .ok (.slice (cutA a c 0 k) j c) W := by
  rw [run_slice_h W T a n c (by rw [R.elem]; exact R.under) .i64 j (by omega) (by omega), R.elem, R.size]
  simp [Result.andThen, sliced, cutA]
theorem run_cutL {T e : TypeId} {k b : Nat} {z : Value} (R : RowT T e k b z) (W : World) (a : Option Addr) (n c i : Nat) (hi : i ≤ n) : (Instr.slice T (.slice a n c) (some (.int .i64 (i : Int))) none none).run Tryz.prog W = .ok (.slice (cutA a c i k) (n - i) (c - i)) W := by
  rw [run_slice_l W T a n c (by rw [R.elem]; exact R.under) .i64 i (by omega) (by omega), R.elem, R.size]
  simp [Result.andThen, sliced, cutA]
theorem Kept.two {S T : List Nat} {a b c : World} (h : Kept [] a b) (k : Kept T b c) (hT : ∀ x ∈ T, a.heap.size ≤ x) : Kept S a c := (h.trans k (fun x hx => .inr (hT x hx))).mono (by simp)
set_option maxHeartbeats 1000000 in
theorem set65_has (hF : IsF w0 w p v u own K ms) (hK : K.length ≤ 64) (to : List UInt8) (s : Nat) (hh : hasK K to = true) : Calls Tryz.prog 104 #[.pointer (some ⟨p, 0, none⟩), Sv to, Uv s] w fun e w' => e = .returned (.tuple #[]) ∧ ∃ u', IsF w0 w' p v u' own (setK K to s) ms ∧ Kept (footF p v u) w w' := by
  obtain ⟨a, c, rfl, hc1, hc2⟩ := rowK_form hF.krow
  obtain ⟨x0, x1, x2⟩ := cells3 hF.box
  have HP := Hid.mk (place67 x2 hF.krow to (by omega))
  have HT := Hid.mk (there53 x2 hF.krow to (by omega))
  rw [hh] at HT
  obtain ⟨t, h1, h2⟩ := has_at hh
  obtain ⟨b, o, rfl, d0, d1⟩ := rowK_at hF.krow h1
  have hlt := get_lt h1
  obtain ⟨ho, f1, hO, kO⟩ := hF.ks.set (CK_wide K) (j := pla K to) (r := [Sv to, Uv t]) (by rw [CK, List.getElem?_map, h1]; rfl) (i := 1) (by omega) (Uv s)
  subst ho
  rw [Nat.zero_add] at d0 d1
  have hset : (CK K).set (pla K to) ([Sv to, Uv t].set 1 (Uv s)) = CK (setK K to s) := by
    rw [setK_has s hh, CK, CK, List.map_set]; rfl
  rw [hset] at hO
  have hub : b ≠ p := fun e => by
    subst e
    exact ownsR_ne hF.ks hF.box (by decide) rfl
  have HR : Hid (∃ u', IsF w0 (w.setCell ⟨b, pla K to * 2 + 1, none⟩ (Uv s)) p v u' own (setK K to s) ms ∧ Kept (footF p v (.slice (some ⟨b, 0, none⟩) K.length c)) w (w.setCell ⟨b, pla K to * 2 + 1, none⟩ (Uv s))) := by
    have hkb : Kept (footF p v (.slice (some ⟨b, 0, none⟩) K.length c)) w (w.setCell ⟨b, pla K to * 2 + 1, none⟩ (Uv s)) := kO.mono (fun x hx => .inl (by simp at hx; subst hx; exact mem_footF.2 (.inr (.inr rfl))))
    refine ⟨_, ⟨kO.keeps hF.box (by simp; exact fun e => hub e.symm), hF.ys.kept kO (fun g hg => ?_), hO, fun g hg => hF.fru g hg, hF.fr⟩, hkb⟩
    simp at hg
    subst hg
    exact ⟨fun hg => own_apart hF.ys.own hF.ks (by decide) hg rfl, fun y hy hg => own_apart (hF.ys.args y hy) hF.ks (by decide) hg rfl⟩
  have hI : (pla K to : Int) < (K.length : Int) := by omega
  have hI0 : (0 : Int) ≤ (pla K to : Int) := by omega
  clear hF h1 h2 hO kO hset hh
  generalize pla K to = P at *
  generalize setK K to s = K' at *
  generalize K.length = n at *
  go_enter Tryz.func104, Tryz.ntmps104
  go_wp2_with fail
  refine HP.out.mono ?_
  rintro e w1 ⟨rfl, rfl⟩
  go_wp2_with fail
  refine HT.out.mono ?_
  rintro e w1 ⟨rfl, rfl⟩
  go_wp2_with fail
  refine bodyPost_ret (results_none rfl _ _ _) rfl ?_
  exact ⟨rfl, HR.out⟩
set_option maxHeartbeats 1000000 in
theorem set65_new (hF : IsF w0 w p v u own K ms) (hK : K.length ≤ 64) (hs0 : w0.heap.size ≤ w.heap.size) (to : List UInt8) (s : Nat) (hh : hasK K to = false) : Calls Tryz.prog 104 #[.pointer (some ⟨p, 0, none⟩), Sv to, Uv s] w fun e w' => e = .returned (.tuple #[]) ∧ ∃ u', IsF w0 w' p v u' own (setK K to s) ms ∧ Kept (footF p v u) w w' := by
  obtain ⟨a, c, rfl, hc1, hc2⟩ := rowK_form hF.krow
  obtain ⟨x0, x1, x2⟩ := cells3 hF.box
  have HP := Hid.mk (place67 x2 hF.krow to (by omega))
  have HT := Hid.mk (there53 x2 hF.krow to (by omega))
  rw [hh] at HT
  have hPle := pla_le K to
  have hset := setK_new s hh
  have hpl := hF.lt
  generalize pla K to = P at *
  -- the first append
  have hcut1 := run_cutH rt72 w a K.length c P (by omega)
  have hr1 := ReadsR.cut (k := 2) (i := 0) (j := P) (m := c) (by rw [CK_length]) hF.krow (by omega) hPle (by omega) (Nat.le_refl _)
  rw [List.drop_zero, Nat.sub_zero, Nat.sub_zero] at hr1
  obtain ⟨a1, c1, w1, hrun1, hO1, hg1, hN1⟩ := run_appendR rt72 w 81 (.slice none 0 0) [] (OwnsR.nil 136 2 w) _ ((CK K).take P) (fun r hr => CK_wide K r (List.mem_of_mem_take hr)) hr1 (by rw [List.length_take, CK_length]; simp; omega)
  rw [List.nil_append, List.length_nil, Nat.zero_add, List.length_take, CK_length, Nat.min_eq_left hPle] at *
  have k1 : Kept [] w w1 := (Kept.refl [] w).grown hg1 (by simp [Value.ownBlock])
  have hf1 : Fresh w (.slice a1 P c1) := fun g hg => by rcases hN1 g hg with h | h; simp [Value.ownBlock] at h; exact h
  -- the second
  obtain ⟨a2, c2, w2, hrun2, hO2, k2, hN2⟩ := append_rowR rt72 hO1 [Sv to, Uv s] rfl (fun x hx => by simp at hx; rcases hx with rfl | rfl <;> rfl) (by rw [List.length_take, CK_length]; omega) 136 (0, 0) 81
  rw [List.length_take, CK_length, Nat.min_eq_left hPle] at *
  have hf2 : Fresh w (.slice a2 (P + 1) c2) := fun g hg => by rcases hN2 g hg with h | h; exact hf1 g h; have := k1.size; omega
  have k02 : Kept [] w w2 := k1.two k2 (fun x hx => by rw [Option.mem_toList] at hx; exact hf1 x hx)
  -- the third
  have hcut2 := run_cutL rt72 w2 a K.length c P hPle
  have hkr2 := hF.krow.kept k02 (by simp)
  have hr2 := ReadsR.cut (k := 2) (i := P) (j := K.length) (m := c) (by rw [CK_length]) hkr2 hPle (Nat.le_refl _) (by omega) (Nat.le_refl _)
  rw [List.take_of_length_le (by rw [CK_length]; exact Nat.le_refl _)] at hr2
  obtain ⟨a3, c3, w3, hrun3, hO3, hg3, hN3⟩ := run_appendR rt72 w2 81 _ _ hO2 _ ((CK K).drop P) (fun r hr => CK_wide K r (List.mem_of_mem_drop hr)) hr2 (by rw [List.length_append, List.length_take, List.length_drop, CK_length, List.length_singleton]; omega)
  rw [List.length_append, List.length_take, CK_length, Nat.min_eq_left hPle, List.length_singleton, List.length_drop, CK_length] at *
  have hf3 : Fresh w (.slice a3 (P + 1 + (K.length - P)) c3) := fun g hg => by rcases hN3 g hg with h | h; exact hf2 g h; have := k02.size; omega
  have k03 : Kept [] w w3 := (k02.grown hg3 (fun x hx => .inr (hf2 x hx)))
  have hF3 := hF.kept0 k03
  have hrows : (CK K).take P ++ [[Sv to, Uv s]] ++ (CK K).drop P = CK (setK K to s) := by
    rw [hset]
    simp [CK, cellsK]
  rw [hrows] at hO3
  obtain ⟨y0, y1, y2⟩ := cells3 (k1.keeps hF.box (by simp))
  obtain ⟨z0, z1, z2⟩ := cells3 (k02.keeps hF.box (by simp))
  obtain ⟨t0, t1, t2⟩ := cells3 hF3.box
  obtain ⟨f0, f1, f2⟩ := free3 hF3.box
  have kp := (Kept.refl [p] w3).setCell (p := ⟨p, 2, none⟩) (.inl (by simp)) (.slice a3 (P + 1 + (K.length - P)) c3)
  have HR : Hid (∃ u', IsF w0 (w3.setCell ⟨p, 2, none⟩ (.slice a3 (P + 1 + (K.length - P)) c3)) p v u' own (setK K to s) ms ∧ Kept (footF p v (.slice a K.length c)) w (w3.setCell ⟨p, 2, none⟩ (.slice a3 (P + 1 + (K.length - P)) c3))) := by
    refine ⟨_, ⟨set3_2 hF3.box, hF3.ys.kept kp (fun g hg => ?_), hO3.kept kp (fun g hg hm => ?_), fun g hg => by have := hf3 g hg; omega, hF.fr⟩, (k03.mono (by simp)).trans kp (fun x hx => .inl (by simp at hx; subst hx; exact mem_footF.2 (.inl rfl)))⟩
    · simp at hg
      subst hg
      exact ⟨ownsR_ne hF3.ys.own hF3.box (by decide), fun y hy => ownsJ_ne (hF3.ys.args y hy) hF3.box (by decide)⟩
    · simp at hm
      subst hm
      exact ownsR_ne hO3 hF3.box (by decide) hg
  have hI : (P : Int) ≤ (c : Int) := by omega
  have hI0 : (0 : Int) ≤ (P : Int) := by omega
  have hI1 : (P : Int) ≤ (K.length : Int) := by omega
  clear hF hF3 kp hO3 hrows hf3 k03 hg3 hN3 hr2 hkr2 hO2 k2 hN2 hf2 k02 hO1 hg1 hN1 k1 hf1 hr1 hset hh
  generalize setK K to s = K' at *
  go_enter Tryz.func104, Tryz.ntmps104
  go_wp2_with fail
  refine HP.out.mono ?_
  rintro e w5 ⟨rfl, rfl⟩
  go_wp2_with fail
  refine HT.out.mono ?_
  rintro e w5 ⟨rfl, rfl⟩
  go_wp2_with (first | (at_builtin; refine wpList_append_run 81 81 (.tmp 22) (.tmp 28) rfl (by rfl) _ _ rfl rfl _ _ hrun1 ?_) | (at_builtin; refine wpList_append_run 81 81 (.tmp 30) (.tmp 34) rfl (by rfl) _ _ rfl rfl _ _ hrun2 ?_) | (at_builtin; refine wpList_append_run 81 81 (.tmp 37) (.tmp 43) rfl (by rfl) _ _ rfl rfl _ _ hrun3 ?_))
  go_end0
  exact ⟨rfl, HR.out⟩
end
end Go.Proofs.YtdadloaifebdiaaGreat
