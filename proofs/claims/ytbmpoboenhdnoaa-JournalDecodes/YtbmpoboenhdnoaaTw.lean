/-
  Both journals side by side.
-/
import Derived.Test.YtbmpoboenhdnoaaSo
import Derived.Test.YtbmpoboenhdnoaaRt
namespace Go.Proofs.Ytbmpoboenhdnoaa
set_option maxRecDepth 100000
open Go.RowKit
set_option linter.unusedVariables false
/-- The program's journal at p is i, the document's at f is j, both new since w0; nothing elder was turned. -/
structure Two (w0 w : World) (p f : Nat) (i j : Jn) : Prop where
  isJ : IsJ w p i
  isF : ∃ u, IsF w f u j ∧ Fresh w0 u
  gi : GoodJ i
  gj : GoodJ j
  hp : w0.heap.size ≤ p
  hf : w0.heap.size ≤ f
  kept : Kept [] w0 w
section
variable {w0 w w' : World} {p f : Nat} {i j : Jn}
theorem Two.kept0 (T : Two w0 w p f i j) (k : Kept [] w w') : Two w0 w' p f i j := by
  obtain ⟨u, h1, h2⟩ := T.isF
  exact ⟨T.isJ.kept0 k, ⟨u, h1.kept0 k, h2⟩, T.gi, T.gj, T.hp, T.hf, T.kept.trans k (by simp)⟩
theorem Two.goP (T : Two w0 w p f i j) {i' : Jn} (h : IsJ w' p i') (g : GoodJ i') (k : Kept [p] w w') : Two w0 w' p f i' j := by
  obtain ⟨u, h1, h2⟩ := T.isF
  refine ⟨h, ⟨u, h1.kept k (by simp; exact box_ne h1.box T.isJ.isP.box (by decide)) (fun g hg hm => ?_), h2⟩, g, T.gj, T.hp, T.hf, T.kept.trans k (fun x hx => by simp at hx; subst hx; exact .inr T.hp)⟩
  simp at hm
  subst hm
  exact ownsR_ne h1.own T.isJ.isP.box (by decide) hg
theorem Two.goF (T : Two w0 w p f i j) {u u' : Value} (h1 : IsF w f u j) (h2 : Fresh w0 u) {j' : Jn} (h : IsF w' f u' j') (hn : New w u u') (g : GoodJ j') (k : Kept (foot f u) w w') : Two w0 w' p f i j' := by
  refine ⟨T.isJ.kept k (fun hm => ?_), ⟨u', h, fun g hg => ?_⟩, T.gi, g, T.hp, T.hf, T.kept.trans k (fun x hx => ?_)⟩
  · rcases mem_foot.1 hm with e | e
    · exact box_ne T.isJ.isP.box h1.box (by decide) e
    · exact ownsR_ne h1.own T.isJ.isP.box (by decide) e
  · rcases hn g hg with h' | h'
    · exact h2 g h'
    · have := T.kept.size; omega
  · rcases mem_foot.1 hx with rfl | h'
    · exact .inr T.hf
    · exact .inr (h2 x h')
theorem two_addP (T : Two w0 w p f i j) {v : Value} {l : List Ep} (hO : OwnsR 34 2 w v (CE l)) (h6 : ∀ e ∈ l, E64 e) (hl : l.length ≤ 1000000) (hv : i.ver + l.length < 18446744073709551616) : Calls Try.prog 12 #[.pointer (some ⟨p, 0, none⟩), v] w fun e w' => e = .returned (Iv (addC l)) ∧ Two w0 w' p f (addR i l) j := by
  refine (add12 T.isJ T.gi.reg (T.isJ.rowKept hO) hl hv).mono ?_
  rintro e w1 ⟨rfl, h, k⟩
  exact ⟨rfl, T.goP h (T.gi.addR h6 hv) k⟩
theorem two_addF (T : Two w0 w p f i j) {x : Value} {l : List Ep} (hI : EvsIn w0 x l) (hl : l.length ≤ 100000) (hv : j.ver + l.length < 18446744073709551616) : Calls Try.prog 14 #[.pointer (some ⟨f, 0, none⟩), x] w fun e w' => e = .returned (Iv (addC l)) ∧ Two w0 w' p f i (addR j l) := by
  obtain ⟨u, h1, h2⟩ := T.isF
  refine (radd14 h1 T.gj.reg T.gj.e16 (fun W k => (hI.kept (T.kept.trans k (fun x hx => ?_))).1) hl hv).mono ?_
  · rcases mem_foot.1 hx with rfl | h'
    · exact .inr T.hf
    · exact .inr (h2 x h')
  · rintro e w1 ⟨rfl, ⟨u', h3, h4⟩, k⟩
    exact ⟨rfl, T.goF h1 h2 h3 h4 (T.gj.addR hI.2 hv) k⟩
theorem two_foldP (T : Two w0 w p f i j) : Calls Try.prog 16 #[.pointer (some ⟨p, 0, none⟩)] w fun e w' => e = .returned (Iv (i.ev.length : Int)) ∧ Two w0 w' p f (foldJ i) j := by
  refine (fold16 T.isJ T.gi.reg).mono ?_
  rintro e w1 ⟨rfl, h, k⟩
  exact ⟨rfl, T.goP h T.gi.fold k⟩
theorem two_foldF (T : Two w0 w p f i j) : Calls Try.prog 17 #[.pointer (some ⟨f, 0, none⟩)] w fun e w' => e = .returned (Iv (j.ev.length : Int)) ∧ Two w0 w' p f i (foldJ j) := by
  obtain ⟨u, h1, h2⟩ := T.isF
  refine (rfold17 h1 T.gj.reg (by have := T.gj.e16; omega)).mono ?_
  rintro e w1 ⟨rfl, ⟨u', h3, h4⟩, k⟩
  refine ⟨rfl, T.goF h1 h2 h3 (fun g hg => ?_) T.gj.fold (k.mono (fun x hx => .inl (mem_foot.2 (.inl (by simpa using hx)))))⟩
  rcases h4 with h | rfl
  · exact .inr (h g hg)
  · exact .inl hg
theorem two_same (T : Two w0 w p f j j) : Calls Try.prog 15 #[.pointer (some ⟨p, 0, none⟩), .pointer (some ⟨f, 0, none⟩)] w fun e w' => e = .returned (.bool true) ∧ Two w0 w' p f j j ∧ Kept [] w w' := by
  obtain ⟨u, h1, h2⟩ := T.isF
  refine (same15 T.isJ h1 T.gj.reg).mono ?_
  rintro e w1 ⟨rfl, k⟩
  exact ⟨rfl, T.kept0 k, k⟩
theorem two_theirs (T : Two w0 w p f i j) {x : Value} {l : List Ep} (hI : EvsIn w0 x l) (hl : l.length ≤ 500000) : Calls Try.prog 13 #[x] w fun e w' => ∃ u, e = .returned u ∧ OwnsR 34 2 w' u (CE l) ∧ Two w0 w' p f i j ∧ Kept [] w w' := by
  refine (theirs13 (hI.kept T.kept).1 hl).mono ?_
  rintro e w1 ⟨u, rfl, h1, h2, k⟩
  exact ⟨u, rfl, h1, T.kept0 k, k⟩
/-- The document's journal is made. -/
theorem two_new (k : Kept [] w0 w) (h : IsJ w p i) (g : GoodJ i) (hp : w0.heap.size ≤ p) : Two w0 (w.alloc (.cells (cellsF z8 (.slice none 0 0) 0).toArray 32)) p w.heap.size i newJ :=
  have k1 := (Kept.refl [] w).alloc (.cells (cellsF z8 (.slice none 0 0) 0).toArray 32)
  ⟨h.kept0 k1, ⟨_, IsF.new w, fresh_nil _ _⟩, g, GoodJ.new, hp, k.size, k.trans k1 (by simp)⟩
end
/-- What a list of lists leaves. -/
def playL (j : Jn) (ls : List (List Ep)) : Jn := ls.foldl addR j
theorem playL_take {j : Jn} {ls : List (List Ep)} {k : Nat} {l : List Ep} (h : ls[k]? = some l) : playL j (ls.take (k + 1)) = addR (playL j (ls.take k)) l := by
  rw [List.take_add_one, h, playL, List.foldl_append]
  rfl
theorem playL_ver : ∀ (ls : List (List Ep)) (j : Jn), (∀ l ∈ ls, l.length ≤ 500) → (playL j ls).ver ≤ j.ver + ls.length * 500
  | [], j, _ => by simp [playL]
  | l :: ls, j, h => by
    have h1 := playL_ver ls (addR j l) fun x hx => h x (by simp [hx])
    have h2 := addR_ver j l
    have h3 := h l (by simp)
    have e : playL j (l :: ls) = playL (addR j l) ls := rfl
    rw [e, List.length_cons]
    omega
end Go.Proofs.Ytbmpoboenhdnoaa
