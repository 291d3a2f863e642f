import Derived.Test.YtpodoiichpnpjaaDoorQ31
import Derived.Test.YtpodoiichpnpjaaDoorQ35
/-
  A run's result, in a box that was made ahead of the run or behind it.
-/
namespace Go.Proofs.YtpodoiichpnpjaaDoor
open Go.RowKit
set_option maxRecDepth 100000
set_option linter.unusedVariables false
/-- The result in a box of its own; rows and box are new since W0. -/
def ResX (W0 wc : World) (g : Nat) (R : Rsl) : Prop := (∃ ev sn tm, ResB wc g R ev sn tm ∧ (∀ g', ev.ownBlock = some g' → W0.heap.size ≤ g') ∧ (∀ g', sn.ownBlock = some g' → W0.heap.size ≤ g') ∧ (∀ g', tm.ownBlock = some g' → W0.heap.size ≤ g')) ∧ Kept [] W0 wc ∧ W0.heap.size ≤ g
theorem ResX.keep {W0 wc wd : World} {g : Nat} {R : Rsl} (h : ResX W0 wc g R) (k : Kept [] wc wd) : ResX W0 wd g R := by
  obtain ⟨⟨ev, sn, tm, h1, h2⟩, h3, h4⟩ := h
  exact ⟨⟨ev, sn, tm, h1.keep k, h2⟩, h3.then k, h4⟩
theorem resX_alloc {n : Nat} {W0 w4 : World} {R : Rsl} {b0 b1 b2 b3 b4 b5 b6 b7 : Int} {ea : Option Addr} {ec : Nat} {sa : Option Addr} {sc : Nat} {ta : Option Addr} {tc : Nat} (h : Told8 n w4 R b0 b1 b2 b3 b4 b5 b6 b7 ea ec sa sc ta tc) (K : Kept [] W0 w4) (hn : W0.heap.size ≤ n) : ResX W0 (w4.alloc (.cells #[.int .i64 b0, .int .i64 b1, .int .i64 b2, .int .i64 b3, .int .i64 b4, .int .i64 b5, .int .i64 b6, .int .i64 b7, .slice ea R.ev.length ec, .slice sa R.sent.length sc, .slice ta R.tm.length tc, .int .i64 (R.k : Int)] 37)) w4.heap.size R := by
  have k1 := (Kept.refl [] w4).alloc (.cells #[.int .i64 b0, .int .i64 b1, .int .i64 b2, .int .i64 b3, .int .i64 b4, .int .i64 b5, .int .i64 b6, .int .i64 b7, .slice ea R.ev.length ec, .slice sa R.sent.length sc, .slice ta R.tm.length tc, .int .i64 (R.k : Int)] 37)
  refine ⟨⟨_, _, _, ⟨?_, h.ev.keep k1, h.sn.keep k1, h.tm.keep k1, by rw [h.reg]; rfl⟩, fun g hg => Nat.le_trans hn (h.n1 g hg), fun g hg => Nat.le_trans hn (h.n2 g hg), fun g hg => Nat.le_trans hn (h.n3 g hg)⟩, K.then k1, K.size⟩
  rw [h.reg]
  exact heap_alloc_new w4 _
theorem resX_put {n : Nat} {W0 w4 : World} {R : Rsl} {b0 b1 b2 b3 b4 b5 b6 b7 : Int} {ea : Option Addr} {ec : Nat} {sa : Option Addr} {sc : Nat} {ta : Option Addr} {tc : Nat} {g : Nat} (h : Told8 n w4 R b0 b1 b2 b3 b4 b5 b6 b7 ea ec sa sc ta tc) (K : Kept [] W0 w4) (hn : W0.heap.size ≤ n) (hb : w4.heap[g]? = some (.cells #[.int .i64 0, .int .i64 0, .int .i64 0, .int .i64 0, .int .i64 0, .int .i64 0, .int .i64 0, .int .i64 0, .slice none 0 0, .slice none 0 0, .slice none 0 0, .int .i64 0] 37 (0, 0))) (hg : W0.heap.size ≤ g) (hgn : g < n) : ResX W0 ((((((((((((w4.setCell ⟨g, 0, none⟩ (.int .i64 b0)).setCell ⟨g, 1, none⟩ (.int .i64 b1)).setCell ⟨g, 2, none⟩ (.int .i64 b2)).setCell ⟨g, 3, none⟩ (.int .i64 b3)).setCell ⟨g, 4, none⟩ (.int .i64 b4)).setCell ⟨g, 5, none⟩ (.int .i64 b5)).setCell ⟨g, 6, none⟩ (.int .i64 b6)).setCell ⟨g, 7, none⟩ (.int .i64 b7)).setCell ⟨g, 8, none⟩ (.slice ea R.ev.length ec)).setCell ⟨g, 9, none⟩ (.slice sa R.sent.length sc)).setCell ⟨g, 10, none⟩ (.slice ta R.tm.length tc)).setCell ⟨g, 11, none⟩ (.int .i64 (R.k : Int))) g R := by
  have e : ∃ W, ((((((((((((w4.setCell ⟨g, 0, none⟩ (.int .i64 b0)).setCell ⟨g, 1, none⟩ (.int .i64 b1)).setCell ⟨g, 2, none⟩ (.int .i64 b2)).setCell ⟨g, 3, none⟩ (.int .i64 b3)).setCell ⟨g, 4, none⟩ (.int .i64 b4)).setCell ⟨g, 5, none⟩ (.int .i64 b5)).setCell ⟨g, 6, none⟩ (.int .i64 b6)).setCell ⟨g, 7, none⟩ (.int .i64 b7)).setCell ⟨g, 8, none⟩ (.slice ea R.ev.length ec)).setCell ⟨g, 9, none⟩ (.slice sa R.sent.length sc)).setCell ⟨g, 10, none⟩ (.slice ta R.tm.length tc)).setCell ⟨g, 11, none⟩ (.int .i64 (R.k : Int))) = W := ⟨_, rfl⟩
  obtain ⟨W, e⟩ := e
  have k1 : Kept [g] w4 W := by rw [← e]; exact (((((((((((((Kept.refl [g] w4).setCell (p := ⟨g, 0, none⟩) (.inl (by simp)) _).setCell (p := ⟨g, 1, none⟩) (.inl (by simp)) _).setCell (p := ⟨g, 2, none⟩) (.inl (by simp)) _).setCell (p := ⟨g, 3, none⟩) (.inl (by simp)) _).setCell (p := ⟨g, 4, none⟩) (.inl (by simp)) _).setCell (p := ⟨g, 5, none⟩) (.inl (by simp)) _).setCell (p := ⟨g, 6, none⟩) (.inl (by simp)) _).setCell (p := ⟨g, 7, none⟩) (.inl (by simp)) _).setCell (p := ⟨g, 8, none⟩) (.inl (by simp)) _).setCell (p := ⟨g, 9, none⟩) (.inl (by simp)) _).setCell (p := ⟨g, 10, none⟩) (.inl (by simp)) _).setCell (p := ⟨g, 11, none⟩) (.inl (by simp)) _)
  have hW : W.heap[g]? = some (.cells #[.int .i64 b0, .int .i64 b1, .int .i64 b2, .int .i64 b3, .int .i64 b4, .int .i64 b5, .int .i64 b6, .int .i64 b7, .slice ea R.ev.length ec, .slice sa R.sent.length sc, .slice ta R.tm.length tc, .int .i64 (R.k : Int)] 37 (0, 0)) := by
    rw [← e]
    have s0 : (w4.setCell ⟨g, 0, none⟩ (.int .i64 b0)).heap[g]? = some (.cells #[.int .i64 b0, .int .i64 0, .int .i64 0, .int .i64 0, .int .i64 0, .int .i64 0, .int .i64 0, .int .i64 0, .slice none 0 0, .slice none 0 0, .slice none 0 0, .int .i64 0] 37 (0, 0)) := set_at hb
    have s1 : ((w4.setCell ⟨g, 0, none⟩ (.int .i64 b0)).setCell ⟨g, 1, none⟩ (.int .i64 b1)).heap[g]? = some (.cells #[.int .i64 b0, .int .i64 b1, .int .i64 0, .int .i64 0, .int .i64 0, .int .i64 0, .int .i64 0, .int .i64 0, .slice none 0 0, .slice none 0 0, .slice none 0 0, .int .i64 0] 37 (0, 0)) := set_at s0
    have s2 : (((w4.setCell ⟨g, 0, none⟩ (.int .i64 b0)).setCell ⟨g, 1, none⟩ (.int .i64 b1)).setCell ⟨g, 2, none⟩ (.int .i64 b2)).heap[g]? = some (.cells #[.int .i64 b0, .int .i64 b1, .int .i64 b2, .int .i64 0, .int .i64 0, .int .i64 0, .int .i64 0, .int .i64 0, .slice none 0 0, .slice none 0 0, .slice none 0 0, .int .i64 0] 37 (0, 0)) := set_at s1
    have s3 : ((((w4.setCell ⟨g, 0, none⟩ (.int .i64 b0)).setCell ⟨g, 1, none⟩ (.int .i64 b1)).setCell ⟨g, 2, none⟩ (.int .i64 b2)).setCell ⟨g, 3, none⟩ (.int .i64 b3)).heap[g]? = some (.cells #[.int .i64 b0, .int .i64 b1, .int .i64 b2, .int .i64 b3, .int .i64 0, .int .i64 0, .int .i64 0, .int .i64 0, .slice none 0 0, .slice none 0 0, .slice none 0 0, .int .i64 0] 37 (0, 0)) := set_at s2
    have s4 : (((((w4.setCell ⟨g, 0, none⟩ (.int .i64 b0)).setCell ⟨g, 1, none⟩ (.int .i64 b1)).setCell ⟨g, 2, none⟩ (.int .i64 b2)).setCell ⟨g, 3, none⟩ (.int .i64 b3)).setCell ⟨g, 4, none⟩ (.int .i64 b4)).heap[g]? = some (.cells #[.int .i64 b0, .int .i64 b1, .int .i64 b2, .int .i64 b3, .int .i64 b4, .int .i64 0, .int .i64 0, .int .i64 0, .slice none 0 0, .slice none 0 0, .slice none 0 0, .int .i64 0] 37 (0, 0)) := set_at s3
    have s5 : ((((((w4.setCell ⟨g, 0, none⟩ (.int .i64 b0)).setCell ⟨g, 1, none⟩ (.int .i64 b1)).setCell ⟨g, 2, none⟩ (.int .i64 b2)).setCell ⟨g, 3, none⟩ (.int .i64 b3)).setCell ⟨g, 4, none⟩ (.int .i64 b4)).setCell ⟨g, 5, none⟩ (.int .i64 b5)).heap[g]? = some (.cells #[.int .i64 b0, .int .i64 b1, .int .i64 b2, .int .i64 b3, .int .i64 b4, .int .i64 b5, .int .i64 0, .int .i64 0, .slice none 0 0, .slice none 0 0, .slice none 0 0, .int .i64 0] 37 (0, 0)) := set_at s4
    have s6 : (((((((w4.setCell ⟨g, 0, none⟩ (.int .i64 b0)).setCell ⟨g, 1, none⟩ (.int .i64 b1)).setCell ⟨g, 2, none⟩ (.int .i64 b2)).setCell ⟨g, 3, none⟩ (.int .i64 b3)).setCell ⟨g, 4, none⟩ (.int .i64 b4)).setCell ⟨g, 5, none⟩ (.int .i64 b5)).setCell ⟨g, 6, none⟩ (.int .i64 b6)).heap[g]? = some (.cells #[.int .i64 b0, .int .i64 b1, .int .i64 b2, .int .i64 b3, .int .i64 b4, .int .i64 b5, .int .i64 b6, .int .i64 0, .slice none 0 0, .slice none 0 0, .slice none 0 0, .int .i64 0] 37 (0, 0)) := set_at s5
    have s7 : ((((((((w4.setCell ⟨g, 0, none⟩ (.int .i64 b0)).setCell ⟨g, 1, none⟩ (.int .i64 b1)).setCell ⟨g, 2, none⟩ (.int .i64 b2)).setCell ⟨g, 3, none⟩ (.int .i64 b3)).setCell ⟨g, 4, none⟩ (.int .i64 b4)).setCell ⟨g, 5, none⟩ (.int .i64 b5)).setCell ⟨g, 6, none⟩ (.int .i64 b6)).setCell ⟨g, 7, none⟩ (.int .i64 b7)).heap[g]? = some (.cells #[.int .i64 b0, .int .i64 b1, .int .i64 b2, .int .i64 b3, .int .i64 b4, .int .i64 b5, .int .i64 b6, .int .i64 b7, .slice none 0 0, .slice none 0 0, .slice none 0 0, .int .i64 0] 37 (0, 0)) := set_at s6
    have s8 : (((((((((w4.setCell ⟨g, 0, none⟩ (.int .i64 b0)).setCell ⟨g, 1, none⟩ (.int .i64 b1)).setCell ⟨g, 2, none⟩ (.int .i64 b2)).setCell ⟨g, 3, none⟩ (.int .i64 b3)).setCell ⟨g, 4, none⟩ (.int .i64 b4)).setCell ⟨g, 5, none⟩ (.int .i64 b5)).setCell ⟨g, 6, none⟩ (.int .i64 b6)).setCell ⟨g, 7, none⟩ (.int .i64 b7)).setCell ⟨g, 8, none⟩ (.slice ea R.ev.length ec)).heap[g]? = some (.cells #[.int .i64 b0, .int .i64 b1, .int .i64 b2, .int .i64 b3, .int .i64 b4, .int .i64 b5, .int .i64 b6, .int .i64 b7, .slice ea R.ev.length ec, .slice none 0 0, .slice none 0 0, .int .i64 0] 37 (0, 0)) := set_at s7
    have s9 : ((((((((((w4.setCell ⟨g, 0, none⟩ (.int .i64 b0)).setCell ⟨g, 1, none⟩ (.int .i64 b1)).setCell ⟨g, 2, none⟩ (.int .i64 b2)).setCell ⟨g, 3, none⟩ (.int .i64 b3)).setCell ⟨g, 4, none⟩ (.int .i64 b4)).setCell ⟨g, 5, none⟩ (.int .i64 b5)).setCell ⟨g, 6, none⟩ (.int .i64 b6)).setCell ⟨g, 7, none⟩ (.int .i64 b7)).setCell ⟨g, 8, none⟩ (.slice ea R.ev.length ec)).setCell ⟨g, 9, none⟩ (.slice sa R.sent.length sc)).heap[g]? = some (.cells #[.int .i64 b0, .int .i64 b1, .int .i64 b2, .int .i64 b3, .int .i64 b4, .int .i64 b5, .int .i64 b6, .int .i64 b7, .slice ea R.ev.length ec, .slice sa R.sent.length sc, .slice none 0 0, .int .i64 0] 37 (0, 0)) := set_at s8
    have s10 : (((((((((((w4.setCell ⟨g, 0, none⟩ (.int .i64 b0)).setCell ⟨g, 1, none⟩ (.int .i64 b1)).setCell ⟨g, 2, none⟩ (.int .i64 b2)).setCell ⟨g, 3, none⟩ (.int .i64 b3)).setCell ⟨g, 4, none⟩ (.int .i64 b4)).setCell ⟨g, 5, none⟩ (.int .i64 b5)).setCell ⟨g, 6, none⟩ (.int .i64 b6)).setCell ⟨g, 7, none⟩ (.int .i64 b7)).setCell ⟨g, 8, none⟩ (.slice ea R.ev.length ec)).setCell ⟨g, 9, none⟩ (.slice sa R.sent.length sc)).setCell ⟨g, 10, none⟩ (.slice ta R.tm.length tc)).heap[g]? = some (.cells #[.int .i64 b0, .int .i64 b1, .int .i64 b2, .int .i64 b3, .int .i64 b4, .int .i64 b5, .int .i64 b6, .int .i64 b7, .slice ea R.ev.length ec, .slice sa R.sent.length sc, .slice ta R.tm.length tc, .int .i64 0] 37 (0, 0)) := set_at s9
    have s11 : ((((((((((((w4.setCell ⟨g, 0, none⟩ (.int .i64 b0)).setCell ⟨g, 1, none⟩ (.int .i64 b1)).setCell ⟨g, 2, none⟩ (.int .i64 b2)).setCell ⟨g, 3, none⟩ (.int .i64 b3)).setCell ⟨g, 4, none⟩ (.int .i64 b4)).setCell ⟨g, 5, none⟩ (.int .i64 b5)).setCell ⟨g, 6, none⟩ (.int .i64 b6)).setCell ⟨g, 7, none⟩ (.int .i64 b7)).setCell ⟨g, 8, none⟩ (.slice ea R.ev.length ec)).setCell ⟨g, 9, none⟩ (.slice sa R.sent.length sc)).setCell ⟨g, 10, none⟩ (.slice ta R.tm.length tc)).setCell ⟨g, 11, none⟩ (.int .i64 (R.k : Int))).heap[g]? = some (.cells #[.int .i64 b0, .int .i64 b1, .int .i64 b2, .int .i64 b3, .int .i64 b4, .int .i64 b5, .int .i64 b6, .int .i64 b7, .slice ea R.ev.length ec, .slice sa R.sent.length sc, .slice ta R.tm.length tc, .int .i64 (R.k : Int)] 37 (0, 0)) := set_at s10
    exact s11
  rw [e]
  have q : ∀ g', n ≤ g' → g' ∉ [g] := fun g' h1 h2 => by simp at h2; omega
  refine ⟨⟨_, _, _, ⟨?_, h.ev.kept k1 (fun g' h' => q g' (h.n1 g' h')), h.sn.kept k1 (fun g' h' => q g' (h.n2 g' h')), h.tm.kept k1 (fun g' h' => q g' (h.n3 g' h')), by rw [h.reg]; rfl⟩, fun g hg => Nat.le_trans hn (h.n1 g hg), fun g hg => Nat.le_trans hn (h.n2 g hg), fun g hg => Nat.le_trans hn (h.n3 g hg)⟩, K.trans k1 (fun x hx => .inr (by simp at hx; omega)), hg⟩
  rw [h.reg]
  exact hW
/-- Cells that are stored one behind the other over a whole block. -/
theorem store_cells {P : Program} {w : World} {g : Nat} {t : TypeId} {L X : List Value} (hb : w.heap[g]? = some (.cells L.toArray t (0, 0))) (hl : X.length = L.length) (h1 : ∀ v ∈ X, v.oneCell' = true) : ∃ W, (storeCells ⟨g, 0, none⟩ X).run P w = .ok () W ∧ W.heap[g]? = some (.cells X.toArray t (0, 0)) ∧ Kept [g] w W := by
  have h := run_storeCells_at P g 0 t X 0 L.toArray w hb (by simp [hl]) h1
  refine ⟨_, h, ?_, (Kept.refl [g] w).setRow (.inl (by simp)) _⟩
  have hlt := lt_of_block hb
  have h' : w.heap[g] = .cells L.toArray t (0, 0) := by simpa [Array.getElem?_eq_getElem hlt] using hb
  show (w.heap.modify g _)[g]? = _
  rw [Array.getElem?_eq_getElem (by simpa using hlt), Array.getElem_modify_self, h']
  simp [hl]
/-- A result's cells, stored into a box that was made ahead of the run. -/
theorem resX_cells {n g : Nat} {W0 w4 : World} {v : Value} {R : Rsl} (h : IsRs n w4 v R) (K : Kept [] W0 w4) (hn : W0.heap.size ≤ n) : ∃ X : List Value, v = .agg X.toArray ∧ X.length = 12 ∧ ∀ g w5, w5.heap[g]? = some (.cells z12.toArray 37 (0, 0)) → W0.heap.size ≤ g → (g < n ∨ w5 = w4.alloc (.cells z12.toArray 37) ∧ g = w4.heap.size) → (w5 = w4 ∨ w5 = w4.alloc (.cells z12.toArray 37)) → ∃ W, (storeCells ⟨g, 0, none⟩ X).run Tryd.prog w5 = .ok () W ∧ ResX W0 W g R := by
  obtain ⟨⟨ev, sn, tm, rfl, h1, h2, h3, n1, n2, n3⟩, h8⟩ := h
  obtain ⟨a1, c1, f1, -⟩ := h1.form
  obtain ⟨a2, c2, f2, -⟩ := h2.form
  obtain ⟨a3, c3, f3, -⟩ := h3.form
  have hl : (cellsR R.reg ev sn tm R.k).length = 12 := by rw [cellsR_length, h8]
  refine ⟨_, rfl, hl, fun g w5 hb hg hor hw => ?_⟩
  have k5 : Kept [] w4 w5 := by
    rcases hw with rfl | rfl
    · exact Kept.refl [] _
    · exact (Kept.refl [] w4).alloc _
  obtain ⟨W, s1, s2, s3⟩ := store_cells (P := Tryd.prog) (X := cellsR R.reg ev sn tm R.k) hb (by rw [hl]; rfl) (cellsR_one (by rw [f1]; rfl) (by rw [f2]; rfl) (by rw [f3]; rfl))
  have keepR : ∀ {k : Nat} {x : Value} {rs : List (List Value)}, ReadsR k w4 x rs → (∀ g', x.ownBlock = some g' → n ≤ g') → Wide k rs → 0 < k → ReadsR k W x rs := fun {k x rs} hr hx hwd hk0 => by
    rcases hor with hor | ⟨-, rfl⟩
    · exact (hr.keep k5).kept s3 (fun g' h' h2 => by have := hx g' h'; simp at h2; omega)
    · by_cases hne : rs = []
      · subst hne
        obtain ⟨a, cap, e, q1, q2, q3, q4⟩ := hr
        exact ⟨a, cap, e, q1, q2, q3, fun h => absurd rfl h⟩
      · obtain ⟨g', e1, e2⟩ := hr.lt hwd hk0 hne
        exact (hr.keep k5).kept s3 (fun g'' h' h2 => by rw [e1] at h'; injection h' with h'; subst h'; simp at h2; omega)
  exact ⟨W, s1, ⟨ev, sn, tm, ⟨s2, keepR h1 n1 (wideE _) (by omega), keepR h2 n2 (wideS _) (by omega), keepR h3 n3 (wideT _) (by omega), h8⟩, fun g hg => Nat.le_trans hn (n1 g hg), fun g hg => Nat.le_trans hn (n2 g hg), fun g hg => Nat.le_trans hn (n3 g hg)⟩, (K.then k5).trans s3 (fun x hx => .inr (by simp at hx; omega)), hg⟩
/-- It is stored into a box that was made ahead of the run. -/
theorem resX_box {n g : Nat} {W0 w4 : World} {v : Value} {R : Rsl} (h : IsRs n w4 v R) (K : Kept [] W0 w4) (hn : W0.heap.size ≤ n) (hb : w4.heap[g]? = some (.cells z12.toArray 37 (0, 0))) (hg : W0.heap.size ≤ g) (hgn : g < n) : ∃ W, (Instr.storeAt 37 (.pointer (some ⟨g, 0, none⟩)) v).run Tryd.prog w4 = .ok () W ∧ ResX W0 W g R := by
  obtain ⟨⟨ev, sn, tm, rfl, h1, h2, h3, n1, n2, n3⟩, h8⟩ := h
  obtain ⟨a1, c1, f1, -⟩ := h1.form
  obtain ⟨a2, c2, f2, -⟩ := h2.form
  obtain ⟨a3, c3, f3, -⟩ := h3.form
  have hl : (cellsR R.reg ev sn tm R.k).length = 12 := by rw [cellsR_length, h8]
  obtain ⟨W, s1, s2, s3⟩ := store_whole (P := Tryd.prog) (X := cellsR R.reg ev sn tm R.k) hb (by rw [hl]; rfl) (by rw [hl]; exact size37) (cellsR_one (by rw [f1]; rfl) (by rw [f2]; rfl) (by rw [f3]; rfl))
  have q : ∀ g', n ≤ g' → g' ∉ [g] := fun g' h1 h2 => by simp at h2; omega
  exact ⟨W, s1, ⟨ev, sn, tm, ⟨s2, h1.kept s3 (fun g' h' => q g' (n1 g' h')), h2.kept s3 (fun g' h' => q g' (n2 g' h')), h3.kept s3 (fun g' h' => q g' (n3 g' h')), h8⟩, fun g hg => Nat.le_trans hn (n1 g hg), fun g hg => Nat.le_trans hn (n2 g hg), fun g hg => Nat.le_trans hn (n3 g hg)⟩, K.trans s3 (fun x hx => .inr (by simp at hx; omega)), hg⟩
/-- It is stored into a new box. -/
theorem resX_new {n : Nat} {W0 w4 : World} {v : Value} {R : Rsl} (h : IsRs n w4 v R) (K : Kept [] W0 w4) (hn : W0.heap.size ≤ n) : ∃ W, (Instr.storeAt 37 (.pointer (some ⟨w4.heap.size, 0, none⟩)) v).run Tryd.prog (w4.alloc (.cells z12.toArray 37)) = .ok () W ∧ ResX W0 W w4.heap.size R := by
  obtain ⟨⟨ev, sn, tm, e, h1, h2, h3, n1, n2, n3⟩, h8⟩ := h
  obtain ⟨W, ev', sn', tm', s1, hB, kk⟩ := res_box (⟨⟨ev, sn, tm, e, h1, h2, h3, n1, n2, n3⟩, h8⟩ : IsRs n w4 v R)
  subst e
  obtain ⟨a1, c1, f1, -⟩ := h1.form
  obtain ⟨a2, c2, f2, -⟩ := h2.form
  obtain ⟨a3, c3, f3, -⟩ := h3.form
  have hl : (cellsR R.reg ev sn tm R.k).length = 12 := by rw [cellsR_length, h8]
  obtain ⟨W2, t1, t2, t3⟩ := store_whole (P := Tryd.prog) (X := cellsR R.reg ev sn tm R.k) (heap_alloc_new w4 (.cells z12.toArray 37)) (by rw [hl]; rfl) (by rw [hl]; exact size37) (cellsR_one (by rw [f1]; rfl) (by rw [f2]; rfl) (by rw [f3]; rfl))
  have k2 : Kept [] w4 W2 := ((Kept.refl [] w4).alloc (.cells z12.toArray 37)).trans t3 (fun x hx => .inr (by simp at hx; omega))
  exact ⟨W2, t1, ⟨ev, sn, tm, ⟨t2, h1.keep k2, h2.keep k2, h3.keep k2, h8⟩, fun g hg => Nat.le_trans hn (n1 g hg), fun g hg => Nat.le_trans hn (n2 g hg), fun g hg => Nat.le_trans hn (n3 g hg)⟩, K.then k2, K.size⟩
end Go.Proofs.YtpodoiichpnpjaaDoor
/-
  InterpLoops' walk.
-/
namespace Go.Proofs.YtpodoiichpnpjaaDoor
open Go.RowKit
set_option maxRecDepth 100000
set_option linter.unusedVariables false
def lt0 : Lt := ⟨[], 0, 0, []⟩
theorem lt0_ok : lt0.ok := lok_of (by decide) (i64_lit (by decide)) (fun z hz => by simp [lt0] at hz)
theorem z8_i64 : ∀ z ∈ z8, I64 z := fun z hz => by simp [z8] at hz; subst hz; exact i64_lit (by decide)
theorem may_loop (v : Int) : mayI (loopP v) lt0 0 = true := by rfl
theorem okp_loop {v : Int} (hv : I64 v) : OkP (loopP v) := fun x hx => by
  simp [loopP] at hx
  rcases hx with rfl | rfl | rfl | rfl | rfl | rfl | rfl | rfl | rfl
  all_goals first | exact hv | exact i64_lit (by decide)
section
variable {w : World}
set_option maxHeartbeats 8000000 in
theorem loops5 (hG : Glob w) (v : Nat) (hv : v < 256) : Calls Tryd.prog 5 #[.int .u8 (v : Int)] w fun e w' => e = .returned (.bool true) ∧ Kept [] w w' := by
  have HA := Hid.mk (awake9 hG)
  have HC : Hid (∀ W W0 : World, Kept [] w W → W.alloc (.cells #[.int .i64 1, .int .i64 (v : Int), .int .i64 3, .int .i64 0, .int .i64 2, .int .i64 0, .int .i64 16, .int .i64 9, .int .i64 2, .int .i64 0, .int .i64 1, .int .i64 1, .int .i64 7, .int .i64 0, .int .i64 3, .int .i64 0, .int .i64 15, .int .i64 2] 60) = W0 → ∀ W1, Kept [] W0 W1 → Calls Tryd.prog 11 #[.agg #[.slice none 0 0, .slice (some ⟨W.heap.size, 0, none⟩) 9 9], .agg #[.int .i64 0, .int .i64 0, .int .i64 0, .int .i64 0, .int .i64 0, .int .i64 0, .int .i64 0, .int .i64 0], .agg #[.string ⟨#[]⟩, .int .u64 0, .int .i64 0, .slice none 0 0], .int .i64 0] W1 fun e w' => ∃ x, e = .returned (.tuple #[x, .int .i64 (resI (loopP (v : Int)) z8 lt0 0).2]) ∧ IsRs W1.heap.size w' x (resI (loopP (v : Int)) z8 lt0 0).1 ∧ Kept [] W1 w') := fun W W0 kW e0 W1 k1 => by
    subst e0
    have k0 := (Kept.refl [] W).alloc (.cells #[.int .i64 1, .int .i64 (v : Int), .int .i64 3, .int .i64 0, .int .i64 2, .int .i64 0, .int .i64 16, .int .i64 9, .int .i64 2, .int .i64 0, .int .i64 1, .int .i64 1, .int .i64 7, .int .i64 0, .int .i64 3, .int .i64 0, .int .i64 15, .int .i64 2] 60)
    have hb := k1.keeps (heap_alloc_new W (.cells #[.int .i64 1, .int .i64 (v : Int), .int .i64 3, .int .i64 0, .int .i64 2, .int .i64 0, .int .i64 16, .int .i64 9, .int .i64 2, .int .i64 0, .int .i64 1, .int .i64 1, .int .i64 7, .int .i64 0, .int .i64 3, .int .i64 0, .int .i64 15, .int .i64 2] 60)) (by simp)
    exact run11 (hG.kept (kW.then (k0.then k1))) ⟨⟨ReadsR.nil 1 W1, prog_fresh (C := (loopP (v : Int)).code) hb (by show 9 ≤ 1000; decide)⟩, by simp [loopP], okp_loop (i64_lit (by omega)), ReadsR.nil 1 W1, lt0_ok, by decide, rfl, z8_i64, i64_lit (by decide)⟩
  have hres : (4 + 7 * v ≤ 500 ∧ ∃ E', E'.length = v + 1 ∧ resI (loopP (v : Int)) z8 lt0 0 = (⟨z8, E', [], [], 4 + 7 * v⟩, 0)) ∨ (500 < 4 + 7 * v ∧ resI (loopP (v : Int)) z8 lt0 0 = (Rsl.none 500, 11)) := by
    have h1 := loop_whole v hv lt0 0
    unfold resI
    rw [if_pos (may_loop _)]
    rcases Nat.lt_or_ge 500 (4 + 7 * v) with h | h
    · right
      rw [h1.2 h]
      exact ⟨h, rfl⟩
    · left
      obtain ⟨E', h2, h3⟩ := h1.1 h
      rw [h2]
      exact ⟨h, E', h3, rfl⟩
  clear hG
  rcases hres with ⟨hle, E', hE, hr⟩ | ⟨hgt, hr⟩
  · rw [hr] at HC
    clear hr
    have q1 : ¬ (500 : Int) < 2 + 7 * (v : Int) + 2 := by omega
    have q2 : ((4 + 7 * v : Nat) : Int) = 2 + 7 * (v : Int) + 2 := by omega
    have HQ2 := Hid.mk q2
    have HE := Hid.mk hE
    clear q2 hE
    go_enter Tryd.func5, Tryd.ntmps5
    go_wp2_with (first | (go_at_call 9; refine HA.out.mono ?_; rintro e w1 ⟨rfl, k1⟩; have K1 := Hid.mk k1; clear k1) | (go_at_call 11; refine (HC.out w1 _ K1.out rfl _ ((Kept.refl [] _).alloc _)).mono ?_; rintro e w2 ⟨x, rfl, hR, k2⟩; obtain ⟨W2, ev, sn, tm, hst, hB, k3⟩ := res_box hR; have K3 := Hid.mk (K1.out.then ((((Kept.refl [] w1).alloc _).alloc _).then (k2.then k3))); have c11 : W2.cell? ⟨w2.heap.size, 11, none⟩ = some (.int .i64 (2 + 7 * (v : Int) + 2)) := (by rw [← HQ2.out]; exact hB.c_k); have c0 : W2.cell? ⟨w2.heap.size, 0, none⟩ = some (.int .i64 0) := hB.c_reg rfl; obtain ⟨ea, ec, hev, -, -⟩ := hB.ev.form; rw [rowE_length, HE.out] at hev; have c8 : W2.cell? ⟨w2.heap.size, 8, none⟩ = some (.slice ea (v + 1) ec) := (by rw [← hev]; exact hB.c_ev); clear hev hB hR k2 k3) | (refine wpList_alloc_run 37 rfl rfl _ _ (alloc37 w2) ?_) | (refine wpList_store_run 37 (.tmp 4) (.tmp 27) rfl rfl _ _ rfl rfl _ hst ?_))
    go_ret
    exact ⟨rfl, K3.out⟩
  · rw [hr] at HC
    clear hr
    have q1 : (500 : Int) < 2 + 7 * (v : Int) + 2 := by omega
    go_enter Tryd.func5, Tryd.ntmps5
    go_wp2_with (first | (go_at_call 9; refine HA.out.mono ?_; rintro e w1 ⟨rfl, k1⟩; have K1 := Hid.mk k1; clear k1) | (go_at_call 11; refine (HC.out w1 _ K1.out rfl _ ((Kept.refl [] _).alloc _)).mono ?_; rintro e w2 ⟨x, rfl, hR, k2⟩; obtain ⟨W2, ev, sn, tm, hst, hB, k3⟩ := res_box hR; have K3 := Hid.mk (K1.out.then ((((Kept.refl [] w1).alloc _).alloc _).then (k2.then k3))); have c11 : W2.cell? ⟨w2.heap.size, 11, none⟩ = some (.int .i64 500) := hB.c_k; clear hB hR k2 k3) | (refine wpList_alloc_run 37 rfl rfl _ _ (alloc37 w2) ?_) | (refine wpList_store_run 37 (.tmp 4) (.tmp 27) rfl rfl _ _ rfl rfl _ hst ?_))
    go_ret
    exact ⟨rfl, K3.out⟩
end
end Go.Proofs.YtpodoiichpnpjaaDoor
