import Derived.Deep.RegionLaw
import Derived.ChangeKeysEq
import Derived.Deep.QuietTactic
import Derived.BigQuiet
import Derived.Test.YtdadloaifebdiaaQ17
import Derived.Test.YtdadloaifebdiaaQ23
import Derived.Test.YtdadloaifebdiaaQ24
/-
  theirs; one journal of the program's since a world; awake.
-/
namespace Go.Proofs.Ytdadloaifebdiaa
set_option maxRecDepth 100000
open Go.RowKit
set_option linter.unusedVariables false
theorem cellsE_one (y : Ep) : ∀ u ∈ cellsE y, u.oneCell' = true := fun x hx => by
  simp [cellsE] at hx
  rcases hx with rfl | rfl <;> rfl
/-- What is laid out so far, in new memory: events of the type t. -/
def OutE (t : TypeId) (w wr : World) (u : Value) (L : List Ep) : Prop := OwnsR t 2 wr u (CE L) ∧ Fresh w u ∧ Kept [] w wr
theorem OutE.nil (t : TypeId) (w : World) : OutE t w w (.slice none 0 0) [] := ⟨OwnsR.nil _ _ _, fresh_nil _ _, Kept.refl [] w⟩
theorem OutE.form {t : TypeId} {w wr : World} {u : Value} {L : List Ep} (h : OutE t w wr u L) : ∃ a c, u = .slice a L.length c := by
  obtain ⟨a, c, e, -⟩ := h.1.form
  rw [CE_length] at e
  exact ⟨a, c, e⟩
theorem OutE.row {t : TypeId} {w wr : World} {u : Value} {L : List Ep} (h : OutE t w wr u L) : ReadsR 2 wr u (CE L) := h.1.reads (CE_wide L)
theorem OutE.more {T t : TypeId} {b : Nat} {z : Value} (R : RowT T t 2 b z) {w wr : World} {u : Value} {L : List Ep} (h : OutE t w wr u L) (hl : L.length ≤ 900000) (y : Ep) : ∃ ad c w2, (Builtin.append_ #[T, T] T #[u, .slice (some ⟨wr.heap.size, 0, none⟩) 1 1]).run Try.prog (wr.alloc (.cells #[Iv y.1, Iv y.2] t)) = .ok (.slice ad (L.length + 1) c) w2 ∧ OutE t w w2 (.slice ad (L.length + 1) c) (L ++ [y]) := by
  obtain ⟨h1, h2, h3⟩ := h
  obtain ⟨ad, c, w2, hrun, hO, k2, hN⟩ := append_rowR R h1 (cellsE y) rfl (cellsE_one y) (by rw [CE_length]; exact hl) t (0, 0) T
  rw [CE_length] at *
  refine ⟨ad, c, w2, hrun, ?_, fun g hg => ?_, h3.two k2 (fun x hx => by rw [Option.mem_toList] at hx; exact h2 x hx)⟩
  · rw [CE_append]; exact hO
  · rcases hN g hg with h | h
    · exact h2 g h
    · exact Nat.le_trans h3.size h
section
variable {w : World}
end
theorem index29 {A : List Int} {i : Nat} {x : Int} (ha : A.length = 8) (h : A[i]? = some x) (W : World) : (Instr.index 86 (.agg (BI A).toArray) (.int .i64 (i : Int))).run Try.prog W = .ok (Iv x) W := by
  have hs : (sizeOf 2).run Try.prog W = .ok 1 W := by kernel_rfl
  have hc : (BI A)[i]? = some (Iv x) := BI_get h
  simp [Instr.index, run_underlying Try.underlying86, asIntOf, hs, part, go_sem, hc]
  intro h8
  have := get_lt h
  omega
/-- The program's journal at p, new since w0, is j; nothing elder was turned. -/
structure One (w0 w : World) (p : Nat) (j : Jn) : Prop where
  isJ : IsJ w p j
  hp : w0.heap.size ≤ p
  good : GoodJ j
  kept : Kept [] w0 w
theorem toE_ok {e : Ep} (h : badE e = false) (h6 : E64 e) : (toE e).r ≤ 7 ∧ I64 (toE e).v := by
  have := badE_no h
  exact ⟨by show e.1.toNat ≤ 7; omega, h6.2⟩
theorem GoodJ.addR {j : Jn} (h : GoodJ j) {l : List Ep} (h6 : ∀ e ∈ l, E64 e) (hv : j.ver + l.length < 18446744073709551616) : GoodJ (addR j l) := by
  unfold Ytdadloaifebdiaa.addR
  split
  · exact h
  · rename_i ha
    refine GoodJ.addA h (fun e he => ?_) (by rw [List.length_map]; exact hv)
    obtain ⟨x, hx, rfl⟩ := List.mem_map.1 he
    refine toE_ok ?_ (h6 x hx)
    cases hb : badE x with
    | false => rfl
    | true => exact absurd (List.any_eq_true.2 ⟨x, hx, hb⟩) ha
theorem addR_ver (j : Jn) (l : List Ep) : (addR j l).ver ≤ j.ver + l.length := by
  unfold addR
  split
  · omega
  · rw [ver_addA, List.length_map]; exact Nat.le_refl _
section
variable {w0 w w' : World} {p : Nat} {j : Jn}
theorem One.kept0 (T : One w0 w p j) (k : Kept [] w w') : One w0 w' p j := ⟨T.isJ.kept0 k, T.hp, T.good, T.kept.trans k (by simp)⟩
theorem One.go (T : One w0 w p j) {j' : Jn} (h : IsJ w' p j') (g : GoodJ j') (k : Kept [p] w w') : One w0 w' p j' := ⟨h, T.hp, g, T.kept.trans k (fun x hx => by simp at hx; subst hx; exact .inr T.hp)⟩
theorem one_new (k : Kept [] w0 w) : Calls Try.prog 25 #[] w fun e w' => ∃ p, e = .returned (.pointer (some ⟨p, 0, none⟩)) ∧ One w0 w' p newJ := by
  refine new11_J.mono ?_
  rintro e w1 ⟨p, rfl, h, k1, hp⟩
  exact ⟨p, rfl, h, Nat.le_trans k.size hp, GoodJ.new, k.trans k1 (by simp)⟩
/-- A row of the program's events is none of a journal's memory. -/
theorem IsJ.rowKept (h : IsJ w p j) {v : Value} {l : List Ep} (hO : OwnsR 63 2 w v (CE l)) : ∀ W, Kept [p] w W → ReadsR 2 W v (CE l) := fun W k =>
  ReadsR.kept (hO.reads (CE_wide l)) k (fun g hg hm => by
    simp at hm
    subst hm
    exact ownsR_ne hO h.isP.box (by decide) hg)
theorem one_add (T : One w0 w p j) {v : Value} {l : List Ep} (hO : OwnsR 63 2 w v (CE l)) (h6 : ∀ e ∈ l, E64 e) (hl : l.length ≤ 1000000) (hv : j.ver + l.length < 18446744073709551616) : Calls Try.prog 21 #[.pointer (some ⟨p, 0, none⟩), v] w fun e w' => e = .returned (Iv (addC l)) ∧ One w0 w' p (addR j l) := by
  refine (add12 T.isJ T.good.reg (T.isJ.rowKept hO) hl hv).mono ?_
  rintro e w1 ⟨rfl, h, k⟩
  exact ⟨rfl, T.go h (T.good.addR h6 hv) k⟩
theorem one_version (T : One w0 w p j) : Calls Try.prog 41 #[.pointer (some ⟨p, 0, none⟩)] w fun e w' => e = .returned (Uv j.ver) ∧ w = w' := version19 T.isJ.isP
/-- A row of one event, just made. -/
theorem row1 (w : World) (y : Ep) : OwnsR 63 2 (w.alloc (.cells #[Iv y.1, Iv y.2] 63)) (.slice (some ⟨w.heap.size, 0, none⟩) 1 1) (CE [y]) :=
  ownsR_block (rs := CE [y]) (heap_alloc_new w _) (CE_wide _) rfl (by decide)
end
end Go.Proofs.Ytdadloaifebdiaa
/-
  The document's journal: drop, State.
-/
namespace Go.Proofs.Ytdadloaifebdiaa
set_option maxRecDepth 100000
open Go.RowKit
set_option linter.unusedVariables false
/-- The cells of the document's journal. -/
def cellsF (A : List Int) (v : Value) (n : Nat) : List Value := BI A ++ [v, Uv n]
/-- The document's journal at block f: its events lie in the row v. -/
structure IsF_J (w : World) (f : Nat) (v : Value) (j : Jn) : Prop where
  box : w.heap[f]? = some (.cells (cellsF j.base v j.ver).toArray 88 (0, 0))
  own : OwnsR 64 2 w v (CE (j.ev.map ofE))
  b8 : j.base.length = 8
section
variable {w w' : World} {f : Nat} {v : Value} {j : Jn}
theorem IsF_J.lt (h : IsF_J w f v j) : f < w.heap.size := lt_of_block h.box
theorem IsF_J.kept {S : List Nat} (h : IsF_J w f v j) (k : Kept S w w') (hf : f ∉ S) (hv : ∀ g, v.ownBlock = some g → g ∉ S) : IsF_J w' f v j := ⟨k.keeps h.box hf, h.own.kept k hv, h.b8⟩
theorem IsF_J.kept0 (h : IsF_J w f v j) (k : Kept [] w w') : IsF_J w' f v j := h.kept k (by simp) (by simp)
theorem IsF_J.free (h : IsF_J w f v j) (i : Nat) : w.frozen? ⟨f, i, none⟩ = false := by simp [World.frozen?, h.box]
theorem IsF_J.cellA (h : IsF_J w f v j) {i : Nat} {x : Int} (hi : j.base[i]? = some x) : w.cell? ⟨f, i, none⟩ = some (Iv x) := cell_list h.box (by
  rw [cellsF, List.getElem?_append_left (by rw [BI_length]; exact get_lt hi)]
  exact BI_get hi)
theorem IsF_J.ev (h : IsF_J w f v j) : w.cell? ⟨f, 8, none⟩ = some v := cell_list h.box (by
  rw [cellsF, List.getElem?_append_right (by rw [BI_length, h.b8]; exact Nat.le_refl _), BI_length, h.b8]
  rfl)
theorem IsF_J.ver (h : IsF_J w f v j) : w.cell? ⟨f, 9, none⟩ = some (Uv j.ver) := cell_list h.box (by
  rw [cellsF, List.getElem?_append_right (by rw [BI_length, h.b8]; omega), BI_length, h.b8]
  rfl)
theorem IsF_J.row (h : IsF_J w f v j) : ReadsR 2 w v (CE (j.ev.map ofE)) := h.own.reads (CE_wide _)
theorem IsF_J.form (h : IsF_J w f v j) : ∃ a c, v = .slice a j.ev.length c ∧ j.ev.length ≤ c ∧ c ≤ 9223372036854775807 := by
  have := rowE_form h.row
  rwa [List.length_map] at this
/-- Its row is another's block. -/
theorem IsF_J.apart (h : IsF_J w f v j) : v.ownBlock ≠ some f := ownsR_ne h.own h.box (by decide)
theorem IsF_J.rangeA (h : IsF_J w f v j) : w.rangeAt f 0 (BI j.base) := fun i x hx => by
  rw [BI, List.getElem?_map, Option.map_eq_some_iff] at hx
  obtain ⟨y, hy, rfl⟩ := hx
  rw [Nat.zero_add]
  exact h.cellA hy
/-- A register is set. -/
theorem IsF_J.setA (h : IsF_J w f v j) {i : Nat} (hi : i < 8) (x : Int) : IsF_J (w.setCell ⟨f, i, none⟩ (Iv x)) f v ⟨j.base.set i x, j.ev, j.ver⟩ := by
  have k := (Kept.refl [f] w).setCell (p := ⟨f, i, none⟩) (.inl (by simp)) (Iv x)
  refine ⟨?_, h.own.kept k (fun g hg hm => by simp at hm; subst hm; exact h.apart hg), by dsimp only; rw [List.length_set]; exact h.b8⟩
  rw [set_list h.box, cellsF, List.set_append_left _ _ (by rw [BI_length, h.b8]; exact hi), BI_set]
  rfl
/-- Another row of events is laid in. -/
theorem IsF_J.put (h : IsF_J w f v j) {u : Value} {ev : List Ev} (hu : OwnsR 64 2 w u (CE (ev.map ofE))) : IsF_J (w.setCell ⟨f, 8, none⟩ u) f u ⟨j.base, ev, j.ver⟩ := by
  have k := (Kept.refl [f] w).setCell (p := ⟨f, 8, none⟩) (.inl (by simp)) u
  refine ⟨?_, hu.kept k (fun g hg hm => by simp at hm; subst hm; exact ownsR_ne hu h.box (by decide) hg), h.b8⟩
  rw [set_list h.box, cellsF, List.set_append_right _ _ (by rw [BI_length, h.b8]; exact Nat.le_refl _), BI_length, h.b8]
  rfl
/-- The version is set. -/
theorem IsF_J.setv (h : IsF_J w f v j) (n : Nat) : IsF_J (w.setCell ⟨f, 9, none⟩ (Uv n)) f v ⟨j.base, j.ev, n⟩ := by
  have k := (Kept.refl [f] w).setCell (p := ⟨f, 9, none⟩) (.inl (by simp)) (Uv n)
  refine ⟨?_, h.own.kept k (fun g hg hm => by simp at hm; subst hm; exact h.apart hg), h.b8⟩
  rw [set_list h.box, cellsF, List.set_append_right _ _ (by rw [BI_length, h.b8]; omega), BI_length, h.b8]
  rfl
theorem IsF_J.new (w : World) : IsF_J (w.alloc (.cells (cellsF z8 (.slice none 0 0) 0).toArray 88)) w.heap.size (.slice none 0 0) newJ := ⟨heap_alloc_new w _, OwnsR.nil _ _ _, rfl⟩
end
section
variable {w : World} {f : Nat} {v : Value}
/-- What region 1 of drop does. -/
theorem drop_tail {W : World} {a : Option Addr} {n c : Nat} {b : List Int} {y : Ev} {t : List Ev} {ver : Nat} (hF : IsF_J W f (.slice a n c) ⟨b, y :: t, ver⟩) (hn : n = t.length + 1) (hl : n ≤ 1000) (hc : n ≤ c) :
    ∃ a1 c1 W1, (Builtin.append_ #[24, 24] 24 #[.slice (some ⟨W.heap.size, 0, none⟩) 0 0, .slice (cutA a c 1 2) (n - 1) (c - 1)]).run Try.prog (W.alloc (.cells #[] 64)) = .ok (.slice a1 (n - 1) c1) W1 ∧ Kept [] W W1 ∧ W1.cell? ⟨f, 8, none⟩ = some (.slice a n c) ∧ W1.frozen? ⟨f, 8, none⟩ = false ∧
      IsF_J (W1.setCell ⟨f, 8, none⟩ (.slice a1 (n - 1) c1)) f (.slice a1 (n - 1) c1) ⟨b, t, ver⟩ ∧ Fresh W (.slice a1 (n - 1) c1) := by
  have k0 := (Kept.refl [] W).alloc (.cells #[] 64)
  have ho : OwnsR 64 2 (W.alloc (.cells #[] 64)) (.slice (some ⟨W.heap.size, 0, none⟩) 0 0) [] := ownsR_block (rs := []) (heap_alloc_new W _) (by intro r hr; cases hr) rfl (by decide)
  have hr := ReadsR.cut (k := 2) (i := 1) (j := n) (m := c) (by rw [CE_length, List.length_map]; simpa using hn) (ReadsR.kept hF.row k0 (by simp)) (by omega) (Nat.le_refl _) hc (Nat.le_refl _)
  have hrows : ((CE ((y :: t).map ofE)).take n).drop 1 = CE (t.map ofE) := by
    rw [List.take_of_length_le (by rw [CE_length, List.length_map, hn]; simp)]
    simp [CE]
  rw [hrows] at hr
  obtain ⟨a1, c1, W1, hrun, hO, hg, hN⟩ := run_appendR rt30 (W.alloc (.cells #[] 64)) 24 _ [] ho _ (CE (t.map ofE)) (CE_wide _) hr (by rw [CE_length, List.length_map]; simp; omega)
  have hlt : (CE (t.map ofE)).length = n - 1 := by rw [CE_length, List.length_map]; omega
  simp only [List.nil_append, List.length_nil, Nat.zero_add, hlt] at hrun hO hN
  have k1 : Kept [] W W1 := k0.grown hg (fun x hx => .inr (by simp [Value.ownBlock] at hx; omega))
  have hF1 := hF.kept0 k1
  refine ⟨a1, c1, W1, hrun, k1, hF1.ev, hF1.free _, hF1.put (ev := t) hO, fun g hg => ?_⟩
  rcases hN g hg with h | h
  · simp [Value.ownBlock] at h; omega
  · have := k0.size; omega
end
end Go.Proofs.Ytdadloaifebdiaa
/-
  The document's journal: drop.
-/
namespace Go.Proofs.Ytdadloaifebdiaa
set_option maxRecDepth 100000
open Go.RowKit
set_option linter.unusedVariables false
section
variable {w : World} {f : Nat} {v : Value}
set_option maxHeartbeats 2000000 in
theorem drop29 {b : List Int} {y : Ev} {t : List Ev} {ver : Nat} (hF : IsF_J w f v ⟨b, y :: t, ver⟩) (hy : y.r ≤ 7) (hl : t.length ≤ 900) : Calls Try.prog 63 #[.pointer (some ⟨f, 0, none⟩)] w fun e w' => e = .returned (.tuple #[]) ∧ (∃ u, IsF_J w' f u ⟨doE b y, t, ver⟩ ∧ Fresh w u) ∧ Kept [f] w w' := by
  obtain ⟨a, c, rfl, hc1, hc2⟩ := hF.form
  have hn : (y :: t).length = t.length + 1 := rfl
  dsimp only at hc1 hF ⊢
  generalize (y :: t).length = n at *
  have HN := Hid.mk hn
  have hrow := hF.row
  obtain ⟨bb, o, rfl, d0, d1⟩ := rowE_at hrow (j := 0) (y := ofE y) rfl
  rw [Nat.zero_mul, Nat.add_zero] at d0 d1
  obtain ⟨x0, hx0⟩ : ∃ x, b[y.r]? = some x := ⟨_, List.getElem?_eq_getElem (by have := hF.b8; dsimp only at this; omega)⟩
  have c0 := hF.cellA hx0
  have f0 := hF.free y.r
  have c0' : w.drew.cell? ⟨f, y.r, none⟩ = some (Iv x0) := c0
  have f0' : w.drew.frozen? ⟨f, y.r, none⟩ = false := f0
  have S0 : w.drew.cell? ⟨f, 8, none⟩ = some (.slice (some ⟨bb, o, none⟩) n c) ∧ w.drew.cell? ⟨bb, o, none⟩ = some (Iv (y.r : Int)) ∧ w.drew.cell? ⟨bb, o + 1, none⟩ = some (Iv y.v) := ⟨hF.ev, d0, d1⟩
  have hF2 := hF.setA (i := y.r) (by omega) y.v
  have k2 : Kept [f] w (w.setCell ⟨f, y.r, none⟩ (Iv y.v)) := (Kept.refl [f] w).setCell (p := ⟨f, y.r, none⟩) (.inl (by simp)) _
  obtain ⟨bb', o', ebb, d2, d3⟩ := rowE_at hF2.row (j := 0) (y := ofE y) rfl
  injection ebb with ebb
  injection ebb with e1 e2
  subst e1 e2
  rw [Nat.zero_mul, Nat.add_zero] at d2 d3
  have HQ : Hid ((w.setCell ⟨f, y.r, none⟩ (Iv y.v)).drew.cell? ⟨f, 8, none⟩ = some (.slice (some ⟨bb, o, none⟩) n c) ∧ (w.setCell ⟨f, y.r, none⟩ (Iv y.v)).drew.cell? ⟨bb, o, none⟩ = some (Iv (y.r : Int)) ∧ (w.setCell ⟨f, y.r, none⟩ (Iv y.v)).drew.cell? ⟨bb, o + 1, none⟩ = some (Iv y.v)) := ⟨hF2.ev, d2, d3⟩
  have H2 : Hid (IsF_J (w.setCell ⟨f, y.r, none⟩ (Iv y.v)).drew f (.slice (some ⟨bb, o, none⟩) n c) ⟨doE b y, y :: t, ver⟩ ∧ Kept [f] w (w.setCell ⟨f, y.r, none⟩ (Iv y.v)).drew) := ⟨hF2.kept0 (Kept.refl [] _).drew, k2.drew⟩
  have r0 : (0 : Int) ≤ (y.r : Int) := by omega
  have r1 : (y.r : Int) < 8 := by omega
  have g0 : (0 : Int) < (n : Int) := by omega
  have g1 : (1 : Int) ≤ (n : Int) := by omega
  have g3 : 0 < n := by omega
  have g4 : 1 ≤ n := by omega
  have g2 : (n : Int) ≤ (c : Int) := by omega
  clear hF hF2 k2 d0 d1 d2 d3 hrow hx0 hn
  go_enter Try.func63, Try.ntmps63
  go_wp2_with fail
  go_region_held3 (fun V => V.cell? ⟨f, 8, none⟩ = some (.slice (some ⟨bb, o, none⟩) n c) ∧ V.cell? ⟨bb, o, none⟩ = some (Iv (y.r : Int)) ∧ V.cell? ⟨bb, o + 1, none⟩ = some (Iv y.v)) (first | with_reducible exact S0 | exact HQ.out) (fail)
  generalize (w.setCell ⟨f, y.r, none⟩ (Iv y.v)).drew = W2 at *
  obtain ⟨h2, k2⟩ := H2.out
  obtain ⟨a1, c1, W1, hrun, k1, e8, fz, hR, hf⟩ := drop_tail h2 HN.out (by have := HN.out; omega) (by omega)
  have hcut := fun W => run_cutL rt30 W (some ⟨bb, o, none⟩) n c 1 (by omega)
  have h8 := h2.ev
  have h8' : (W2.alloc (.cells #[] 64)).cell? ⟨f, 8, none⟩ = some (.slice (some ⟨bb, o, none⟩) n c) := ((Kept.refl [] W2).alloc _).cell_eq h8
  have HR : Hid ((∃ u, IsF_J (W1.setCell ⟨f, 8, none⟩ (.slice a1 (n - 1) c1)) f u ⟨doE b y, t, ver⟩ ∧ Fresh w u) ∧ Kept [f] w (W1.setCell ⟨f, 8, none⟩ (.slice a1 (n - 1) c1))) := ⟨⟨_, hR, fun g hg => by have := hf g hg; have := k2.size; omega⟩, (k2.trans k1 (by simp)).setCell (p := ⟨f, 8, none⟩) (.inl (by simp)) _⟩
  clear H2 h2 k2 k1 hR hf S0 HQ c0 f0 c0' f0'
  have hcut2 : ∀ W : World, (Instr.slice 24 (.slice (some ⟨bb, o, none⟩) n c) (some (.int .i64 1)) none none).run Try.prog W = .ok (.slice (cutA (some ⟨bb, o, none⟩) c 1 2) (n - 1) (c - 1)) W := hcut
  clear hcut
  go_wp2_with (at_builtin; refine wpList_append_run 24 24 (.tmp 21) (.tmp 26) rfl (by rfl) _ _ rfl rfl _ _ hrun ?_)
  go_end0
  exact ⟨rfl, HR.out⟩
end
end Go.Proofs.Ytdadloaifebdiaa
/-
  The document's journal: State, Fold.
-/
namespace Go.Proofs.Ytdadloaifebdiaa
set_option maxRecDepth 100000
open Go.RowKit
set_option linter.unusedVariables false
section
variable {w : World} {f : Nat} {v : Value} {j : Jn}
/-- How long the row of the journal at f is. -/
def lenAt (w : World) (f : Nat) : Nat := match w.cell? ⟨f, 8, none⟩ with
  | some (.slice _ n _) => n
  | _ => 0
theorem IsF_J.lenAt (h : IsF_J w f v j) : lenAt w f = j.ev.length := by
  obtain ⟨a, c, rfl, -⟩ := h.form
  unfold Ytdadloaifebdiaa.lenAt
  rw [h.ev]
end
end Go.Proofs.Ytdadloaifebdiaa
/-
  Eight integers: as cells, and held against each other.
-/
namespace Go.Proofs.Ytdadloaifebdiaa
set_option maxRecDepth 100000
open Go.RowKit
set_option linter.unusedVariables false
theorem eight {A : List Int} (h : A.length = 8) : ∃ a0 a1 a2 a3 a4 a5 a6 a7, A = [a0, a1, a2, a3, a4, a5, a6, a7] := by
  match A, h with
  | [a0, a1, a2, a3, a4, a5, a6, a7], _ => exact ⟨a0, a1, a2, a3, a4, a5, a6, a7, rfl⟩
/-- Eight cells, one behind the other. -/
def Cells8 (W : World) (g : Nat) (a0 a1 a2 a3 a4 a5 a6 a7 : Int) : Prop := W.cell? ⟨g, 0, none⟩ = some (Iv a0) ∧ W.cell? ⟨g, 1, none⟩ = some (Iv a1) ∧ W.cell? ⟨g, 2, none⟩ = some (Iv a2) ∧ W.cell? ⟨g, 3, none⟩ = some (Iv a3) ∧ W.cell? ⟨g, 4, none⟩ = some (Iv a4) ∧ W.cell? ⟨g, 5, none⟩ = some (Iv a5) ∧ W.cell? ⟨g, 6, none⟩ = some (Iv a6) ∧ W.cell? ⟨g, 7, none⟩ = some (Iv a7)
theorem cells8 {W : World} {g : Nat} {A : List Int} {a0 a1 a2 a3 a4 a5 a6 a7 : Int} (hA : A = [a0, a1, a2, a3, a4, a5, a6, a7]) (h : ∀ i x, A[i]? = some x → W.cell? ⟨g, i, none⟩ = some (Iv x)) : Cells8 W g a0 a1 a2 a3 a4 a5 a6 a7 := by
  subst hA
  exact ⟨h 0 _ rfl, h 1 _ rfl, h 2 _ rfl, h 3 _ rfl, h 4 _ rfl, h 5 _ rfl, h 6 _ rfl, h 7 _ rfl⟩
theorem equal29 (a0 a1 a2 a3 a4 a5 a6 a7 : Int) (W : World) : (Op.equalIn 10000 86 (.agg #[Iv a0, Iv a1, Iv a2, Iv a3, Iv a4, Iv a5, Iv a6, Iv a7]) (.agg #[Iv a0, Iv a1, Iv a2, Iv a3, Iv a4, Iv a5, Iv a6, Iv a7])).run Try.prog W = .ok true W := by
  have hi : ∃ i, Try.prog.info? 2 = some i := Option.isSome_iff_exists.1 (by kernel_rfl)
  obtain ⟨i, hi⟩ := hi
  have hg : ∀ W : World, (isAgg 2).run Try.prog W = .ok false W := fun W => by kernel_rfl
  have he : ∀ (x : Int) (W : World), (Op.equalIn 9999 2 (.int .i64 x) (.int .i64 x)).run Try.prog W = .ok true W := fun x W => by
    rw [run_equalIn_int W 9998 2 .i64 _ x x Try.underlying2]; simp
  have hc : Try.prog.cellsOf 2 = 1 := by kernel_rfl
  have hr : List.range 8 = [0, 1, 2, 3, 4, 5, 6, 7] := by decide
  rw [run_equalIn_array W 9999 _ _ Try.underlying86 hi, hc, hr]
  simp [Op.eqItems, part, hg, he, go_sem]
end Go.Proofs.Ytdadloaifebdiaa
/-
  same: a journal of the program's held against the document's.
-/
namespace Go.Proofs.Ytdadloaifebdiaa
set_option maxRecDepth 100000
open Go.RowKit
set_option linter.unusedVariables false
/-- A world that kept all of another. -/
structure KW (a : World) where
  w : World
  k : Kept [] a w
instance (a : World) : Nonempty (KW a) := ⟨⟨a, Kept.refl [] a⟩⟩
theorem calls_kw {P : Program} {f : FuncId} {args : Array Value} {v : Value} {a : World} {z : KW a} (h : Calls P f args z.w fun e w' => e = .returned v ∧ Kept [] z.w w') : Calls P f args z.w fun e w'' => e = .returned v ∧ ∃ z' : KW a, w'' = z'.w :=
  h.mono fun e w'' h => ⟨h.1, ⟨w'', z.k.trans h.2 (by simp)⟩, rfl⟩
theorem wp_region_kw {P : Program} {C : World → Prop} {id : Nat} {Q : Exit → Act → World → Prop} {a : Act} {w : World} {l : List Oper} (hm : P.follows .mixedOrders = true) (hB : Region.lexB .any l.toArray = true) (hC : C w.drew)
    (h : wpQuiet P l.toArray C (fun a' => ∀ w', C w' → Q .normal a' w') l a) : (Code.region id l.toArray true).wp P Q a w :=
  wp_region_quiet (C := C) hm hB hC (by simpa using h)
section
variable {w : World} {p f : Nat} {v : Value} {j : Jn}
end
end Go.Proofs.Ytdadloaifebdiaa
