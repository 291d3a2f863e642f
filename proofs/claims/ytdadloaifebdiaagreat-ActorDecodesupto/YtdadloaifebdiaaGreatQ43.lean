import Derived.Test.YtdadloaifebdiaaGreatQ19
import Derived.Test.YtdadloaifebdiaaGreatQ32
import Derived.Test.YtdadloaifebdiaaGreatQ42
/-
  The document's Decode of an outbox.
-/
namespace Go.Proofs.YtdadloaifebdiaaGreat
set_option maxRecDepth 100000
open Go.RowKit
set_option linter.unusedVariables false
theorem ge_no {a b : List UInt8} (h : b < a) : (Op.bytesLess a b || b == a) = false := by
  rw [bytesLess_eq, Bool.or_eq_false_iff]
  exact ⟨by simpa using fun h' => klt_irrefl _ (klt_trans h h'), by simp; rintro rfl; exact klt_irrefl _ h⟩
theorem ge_yes {a b : List UInt8} (h : ¬ b < a) : (Op.bytesLess a b || b == a) = true := by
  rw [bytesLess_eq, Bool.or_eq_true]
  by_cases e : a = b
  · right; simp [e]
  · left; simpa using klt_tri h (fun h => e h.symm)
theorem rks_bad {K : List La} {l : List UInt8} {n : Nat} (h : (rnum (rtext l false).2.1 (rtext l false).2.2).2.2 = true) : rks (n + 1) K l = none := by
  rw [rks]
  cases ht : txt l with
  | none => rfl
  | some a =>
    obtain ⟨k, r⟩ := a
    rw [txt_some ht] at h
    dsimp only [Option.bind_some] at h ⊢
    cases hn : num r with
    | none => rfl
    | some b =>
      obtain ⟨s, r2⟩ := b
      rw [num_some hn] at h
      cases h
theorem rls_no {own : List UInt8} {K : List La} {L : List Ot} {l : List UInt8} {n : Nat} (h : (rtext (rtext l false).2.1 (rtext l false).2.2).2.2 = true ∨ decL (rtext (rtext l false).2.1 (rtext l false).2.2).1 = none ∨ ∃ x, decL (rtext (rtext l false).2.1 (rtext l false).2.2).1 = some x ∧ (x.fr ≠ own ∨ hasK K (rtext l false).1 = false)) : rls own K (n + 1) L l = none := by
  rw [rls]
  cases ht : txt l with
  | none => rfl
  | some a =>
    obtain ⟨k, r⟩ := a
    rw [txt_some ht] at h
    dsimp only [Option.bind_some] at h ⊢
    cases hn : txt r with
    | none => rfl
    | some b =>
      obtain ⟨s, r2⟩ := b
      rw [txt_some hn] at h
      dsimp only [Option.bind_some] at h ⊢
      rcases h with h | h | ⟨x, h, h'⟩
      · cases h
      · rw [h]; rfl
      · rw [h]
        dsimp only [Option.bind_some]
        rw [if_pos h']
theorem rls_yes {own : List UInt8} {K : List La} {L : List Ot} {l : List UInt8} {n : Nat} {x : Lt} (h : decL (rtext (rtext l false).2.1 (rtext l false).2.2).1 = some x) (hf : x.fr = own) (hk : hasK K (rtext l false).1 = true) : rls own K (n + 1) L l = rls own K n (L ++ [⟨(rtext l false).1, x⟩]) (rtext (rtext l false).2.1 (rtext l false).2.2).2.1 := by
  rw [rls]
  cases ht : txt l with
  | none =>
    rw [txt_none ht] at h
    have e : (rtext [] true).1 = [] := rfl
    dsimp only at h
    rw [e, decL_nil] at h
    cases h
  | some a =>
    obtain ⟨k, r⟩ := a
    rw [txt_some ht] at h hk ⊢
    dsimp only [Option.bind_some] at h hk ⊢
    cases hn : txt r with
    | none =>
      rw [txt_none hn, decL_nil] at h
      cases h
    | some b =>
      obtain ⟨s, r2⟩ := b
      rw [txt_some hn] at h ⊢
      dsimp only [Option.bind_some] at h ⊢
      rw [h]
      dsimp only [Option.bind_some]
      rw [if_neg (by simp [hf, hk])]
/-- The document's outbox at pf and its Reader at q, side by side. -/
structure SF (w0 w : World) (pf q : Nat) (own : List UInt8) (K : List La) (ms : List Yq) (l : List UInt8) (bad : Bool) : Prop where
  isF : ∃ v u, IsF w0 w pf v u own K ms
  rd : ∃ x, IsR 132 w q x l bad ∧ ∀ g, x.ownBlock = some g → g < w0.heap.size
  new : w0.heap.size ≤ q
  k : Kept [] w0 w
section
variable {w0 w w' : World} {pf q : Nat} {own : List UInt8} {K : List La} {ms : List Yq} {l : List UInt8} {bad : Bool}
theorem SF.kept0 (h : SF w0 w pf q own K ms l bad) (k : Kept [] w w') : SF w0 w' pf q own K ms l bad := by
  obtain ⟨v, u, hF⟩ := h.isF
  obtain ⟨x, h1, h2⟩ := h.rd
  exact ⟨⟨v, u, hF.kept0 k⟩, ⟨x, h1.kept k (by simp) (by simp), h2⟩, h.new, h.k.trans k (by simp)⟩
theorem SF.read (h : SF w0 w pf q own K ms l bad) {l' : List UInt8} {bad' : Bool} {x x' : Value} (h1 : IsR 132 w q x l bad) (h2 : ∀ g, x.ownBlock = some g → g < w0.heap.size) (i1 : IsR 132 w' q x' l' bad') (i2 : Kept [q] w w') (i3 : ∀ g, x'.ownBlock = some g → x.ownBlock = some g) : SF w0 w' pf q own K ms l' bad' := by
  obtain ⟨v, u, hF⟩ := h.isF
  refine ⟨⟨v, u, i2.keeps hF.box (by simp; exact box_ne hF.box h1.box (by decide)), hF.ys.kept i2 (fun g hg => ?_), hF.ks.kept i2 (fun g hg hm => ?_), hF.fru, hF.fr⟩, ⟨x', i1, fun g hg => h2 g (i3 g hg)⟩, h.new, h.k.trans i2 (fun y hy => by simp at hy; subst hy; exact .inr h.new)⟩
  · simp at hg
    subst hg
    exact ⟨ownsR_ne hF.ys.own h1.box (by decide), fun y hy => ownsJ_ne (hF.ys.args y hy) h1.box (by decide)⟩
  · simp at hm
    subst hm
    exact ownsR_ne hF.ks h1.box (by decide) hg
theorem sf_num (h : SF w0 w pf q own K ms l bad) : Calls Tryz.prog 22 #[.pointer (some ⟨q, 0, none⟩)] w fun e w' => e = .returned (.int .u64 ((rnum l bad).1 : Int)) ∧ SF w0 w' pf q own K ms (rnum l bad).2.1 (rnum l bad).2.2 := by
  obtain ⟨x, h1, h2⟩ := h.rd
  refine (refr_any q x l bad w h1).mono ?_
  rintro e w' ⟨rfl, x', i1, i2, i3⟩
  exact ⟨rfl, h.read h1 h2 i1 i2 i3⟩
theorem sf_text (h : SF w0 w pf q own K ms l bad) : Calls Tryz.prog 24 #[.pointer (some ⟨q, 0, none⟩)] w fun e w' => e = .returned (Sv (rtext l bad).1) ∧ SF w0 w' pf q own K ms (rtext l bad).2.1 (rtext l bad).2.2 := by
  obtain ⟨x, h1, h2⟩ := h.rd
  refine (refr_text q x l bad w h1).mono ?_
  rintro e w' ⟨rfl, x', i1, i2, i3⟩
  exact ⟨rfl, h.read h1 h2 i1 i2 i3⟩
theorem SF.turn {K' : List La} {ms' : List Yq} {v u v' u' : Value} (h : SF w0 w pf q own K ms l bad) (hF : IsF w0 w pf v u own K ms) (hF' : IsF w0 w' pf v' u' own K' ms') (k : Kept (footF pf v u) w w') : SF w0 w' pf q own K' ms' l bad := by
  obtain ⟨x, h1, h2⟩ := h.rd
  refine ⟨⟨v', u', hF'⟩, ⟨x, h1.kept k (fun hm => ?_) (fun g hg hm => ?_), h2⟩, h.new, h.k.trans k (fun y hy => ?_)⟩
  · rcases mem_footF.1 hm with e | e | e
    · exact box_ne h1.box hF.box (by decide) e
    · exact ownsR_ne hF.ys.own h1.box (by decide) e
    · exact ownsR_ne hF.ks h1.box (by decide) e
  · have hlt := h2 g hg
    rcases mem_footF.1 hm with e | e | e
    · have := hF.fr; omega
    · have := hF.ys.fr g e; omega
    · have := hF.fru g e; omega
  · rcases mem_footF.1 hy with e | e | e
    · right; rw [e]; exact hF.fr
    · exact .inr (hF.ys.fr y e)
    · exact .inr (hF.fru y e)
theorem IsF.addK {v u : Value} (hF : IsF w0 w pf v u own K ms) (hs0 : w0.heap.size ≤ w.heap.size) (y : La) (hn : K.length ≤ 1000) : ∃ ad c w', (Builtin.append_ #[81, 81] 81 #[u, .slice (some ⟨w.heap.size, 0, none⟩) 1 1]).run Tryz.prog (w.alloc (.cells #[Sv y.k, Uv y.s] 136)) = .ok (.slice ad (K.length + 1) c) w' ∧ w'.cell? ⟨pf, 2, none⟩ = some u ∧ w'.frozen? ⟨pf, 2, none⟩ = false ∧ IsF w0 (w'.setCell ⟨pf, 2, none⟩ (.slice ad (K.length + 1) c)) pf v (.slice ad (K.length + 1) c) own (K ++ [y]) ms ∧ Kept (footF pf v u) w (w'.setCell ⟨pf, 2, none⟩ (.slice ad (K.length + 1) c)) := by
  obtain ⟨ad, c, w', hrun, hO, k, hN⟩ := append_rowR rt72 hF.ks [Sv y.k, Uv y.s] rfl (fun x hx => by simp at hx; rcases hx with rfl | rfl <;> rfl) (by rw [CK_length]; omega) 136 (0, 0) 81
  rw [CK_length] at hrun hO hN
  have hbx := k.keeps hF.box (by rw [Option.mem_toList]; exact ownsR_ne hF.ks hF.box (by decide))
  have kp := (Kept.refl [pf] w').setCell (p := ⟨pf, 2, none⟩) (.inl (by simp)) (.slice ad (K.length + 1) c)
  have hys := hF.ys.kept k (fun g hg => by
    rw [Option.mem_toList] at hg
    exact ⟨fun h => own_apart hF.ys.own hF.ks (by decide) h hg, fun z hz h => own_apart (hF.ys.args z hz) hF.ks (by decide) h hg⟩)
  have e : CK K ++ [[Sv y.k, Uv y.s]] = CK (K ++ [y]) := by simp [CK, cellsK]
  rw [e] at hO
  refine ⟨ad, c, w', hrun, (cells3 hbx).2.2, (free3 hbx).2.2, ⟨set3_2 hbx, hys.kept kp (fun g hg => ?_), hO.kept kp (fun g hg hm => ?_), fun g hg => ?_, hF.fr⟩, ?_⟩
  · simp at hg
    subst hg
    exact ⟨ownsR_ne hys.own hbx (by decide), fun z hz => ownsJ_ne (hys.args z hz) hbx (by decide)⟩
  · simp at hm
    subst hm
    exact ownsR_ne hO hbx (by decide) hg
  · rcases hN g hg with h | h
    · exact hF.fru g h
    · omega
  · exact (k.mono (fun x hx => .inl (mem_footF.2 (.inr (.inr (by rw [Option.mem_toList] at hx; exact hx)))))).setCell (p := ⟨pf, 2, none⟩) (.inl (mem_footF.2 (.inl rfl))) _
theorem IsF.addY {v u : Value} (hF : IsF w0 w pf v u own K ms) (hs0 : w0.heap.size ≤ w.heap.size) (y : Yq) (hq : OwnsJ w y.q.sl y.q.x.args) (hf : Fresh w0 y.q.sl) (hn : ms.length ≤ 1000) : ∃ ad c w', (Builtin.append_ #[80, 80] 80 #[v, .slice (some ⟨w.heap.size, 0, none⟩) 1 1]).run Tryz.prog (w.alloc (.cells #[Sv y.to, Sv y.q.x.fr, .int .u64 (y.q.x.ser : Int), .int .i64 y.q.x.kind, y.q.sl] 93)) = .ok (.slice ad (ms.length + 1) c) w' ∧ w'.cell? ⟨pf, 1, none⟩ = some v ∧ w'.frozen? ⟨pf, 1, none⟩ = false ∧ IsF w0 (w'.setCell ⟨pf, 1, none⟩ (.slice ad (ms.length + 1) c)) pf (.slice ad (ms.length + 1) c) u own K (ms ++ [y]) ∧ Kept (footF pf v u) w (w'.setCell ⟨pf, 1, none⟩ (.slice ad (ms.length + 1) c)) := by
  obtain ⟨ad, c, w', hrun, hO, k⟩ := hF.ys.app y hq hf hs0 (by omega)
  have hbx := k.keeps hF.box (by rw [Option.mem_toList]; exact ownsR_ne hF.ys.own hF.box (by decide))
  have kp := (Kept.refl [pf] w').setCell (p := ⟨pf, 1, none⟩) (.inl (by simp)) (.slice ad (ms.length + 1) c)
  have hks := hF.ks.kept k (fun g hg hm => by rw [Option.mem_toList] at hm; exact own_apart hF.ks hF.ys.own (by decide) hg hm)
  refine ⟨ad, c, w', hrun, (cells3 hbx).2.1, (free3 hbx).2.1, ⟨set3_1 hbx, hO.kept kp (fun g hg => ?_), hks.kept kp (fun g hg hm => ?_), hF.fru, hF.fr⟩, ?_⟩
  · simp at hg
    subst hg
    exact ⟨ownsR_ne hO.own hbx (by decide), fun z hz => ownsJ_ne (hO.args z hz) hbx (by decide)⟩
  · simp at hm
    subst hm
    exact ownsR_ne hks hbx (by decide) hg
  · exact (k.mono (fun x hx => .inl (mem_footF.2 (.inr (.inl (by rw [Option.mem_toList] at hx; exact hx)))))).setCell (p := ⟨pf, 1, none⟩) (.inl (mem_footF.2 (.inl rfl))) _
/-- What the document's Decode answers. -/
def DecF (w : World) (l : List UInt8) (e : Ending) (w' : World) : Prop :=
  (decO l = none ∧ e = .returned (.tuple #[.pointer none, .int .i64 2]) ∧ Kept [] w w') ∨
  (∃ pf v u o ms, decO l = some o ∧ e = .returned (.tuple #[.pointer (some ⟨pf, 0, none⟩), .int .i64 0]) ∧ IsF w w' pf v u o.own o.K ms ∧ ms.map ot = o.L ∧ Kept [] w w')
end
end Go.Proofs.YtdadloaifebdiaaGreat
