import Derived.Deep.DeepCutAuto
import Derived.ChangeKeysEq
import Derived.Deep.RegionHeld3
import Derived.Deep.RegionLaw
import Derived.Test.YtngnenbidpojeaaDoorW03
import Derived.Test.YtngnenbidpojeaaDoorW05
import Derived.Test.YtngnenbidpojeaaDoorW06
import Derived.Test.YtngnenbidpojeaaDoorW18
import Derived.Test.YtngnenbidpojeaaDoorW20
import Derived.Test.YtngnenbidpojeaaDoorW22
import Derived.Test.YtngnenbidpojeaaDoorW23
import Derived.Test.YtngnenbidpojeaaDoorW24
import Derived.Test.YtngnenbidpojeaaDoorW31
import Derived.Test.YtngnenbidpojeaaDoorW32
import Derived.Test.YtngnenbidpojeaaDoorW33
import Derived.Test.YtngnenbidpojeaaDoorW34
import Derived.Test.YtngnenbidpojeaaDoorW35
import Derived.Test.YtngnenbidpojeaaDoorW37
/-
  A run's result, in a box that was made ahead of the run or behind it.
-/
namespace Go.Proofs.YtngnenbidpojeaaDoor
open Go.RowKit
set_option maxRecDepth 100000
set_option linter.unusedVariables false
/-- The result in a box of its own; rows and box are new since W0. -/
def ResX (W0 wc : World) (g : Nat) (R : Rsl) : Prop := (∃ ev sn tm, ResB wc g R ev sn tm ∧ (∀ g', ev.ownBlock = some g' → W0.heap.size ≤ g') ∧ (∀ g', sn.ownBlock = some g' → W0.heap.size ≤ g') ∧ (∀ g', tm.ownBlock = some g' → W0.heap.size ≤ g')) ∧ Kept [] W0 wc ∧ W0.heap.size ≤ g
theorem ResX.keep {W0 wc wd : World} {g : Nat} {R : Rsl} (h : ResX W0 wc g R) (k : Kept [] wc wd) : ResX W0 wd g R := by
  obtain ⟨⟨ev, sn, tm, h1, h2⟩, h3, h4⟩ := h
  exact ⟨⟨ev, sn, tm, h1.keep k, h2⟩, h3.then k, h4⟩
/-- Cells that are stored one behind the other over a whole block. -/
theorem store_cells {P : Program} {w : World} {g : Nat} {t : TypeId} {L X : List Value} (hb : w.heap[g]? = some (.cells L.toArray t (0, 0))) (hl : X.length = L.length) (h1 : ∀ v ∈ X, v.oneCell' = true) : ∃ W, (storeCells ⟨g, 0, none⟩ X).run P w = .ok () W ∧ W.heap[g]? = some (.cells X.toArray t (0, 0)) ∧ Kept [g] w W := by
  have h := run_storeCells_at P g 0 t X 0 L.toArray w hb (by simp [hl]) h1
  refine ⟨_, h, ?_, (Kept.refl [g] w).setRow (.inl (by simp)) _⟩
  have hlt := lt_of_block hb
  have h' : w.heap[g] = .cells L.toArray t (0, 0) := by simpa [Array.getElem?_eq_getElem hlt] using hb
  show (w.heap.modify g _)[g]? = _
  rw [Array.getElem?_eq_getElem (by simpa using hlt), Array.getElem_modify_self, h']
  simp [hl]
/-- A result's cells, stored into a box that was made ahead of the run. -/
theorem resX_cells {n g : Nat} {W0 w4 : World} {v : Value} {R : Rsl} (h : IsRs n w4 v R) (K : Kept [] W0 w4) (hn : W0.heap.size ≤ n) : ∃ X : List Value, v = .agg X.toArray ∧ X.length = 12 ∧ ∀ g w5, w5.heap[g]? = some (.cells z12.toArray 76 (0, 0)) → W0.heap.size ≤ g → (g < n ∨ w5 = w4.alloc (.cells z12.toArray 76) ∧ g = w4.heap.size) → (w5 = w4 ∨ w5 = w4.alloc (.cells z12.toArray 76)) → ∃ W, (storeCells ⟨g, 0, none⟩ X).run Tryd.prog w5 = .ok () W ∧ ResX W0 W g R := by
  obtain ⟨⟨ev, sn, tm, rfl, h1, h2, h3, n1, n2, n3⟩, h8⟩ := h
  obtain ⟨a1, c1, f1, -⟩ := h1.form
  obtain ⟨a2, c2, f2, -⟩ := h2.form
  obtain ⟨a3, c3, f3, -⟩ := h3.form
  have hl : (cellsR R.reg ev sn tm R.k).length = 12 := by rw [cellsR_length, h8]
  refine ⟨_, rfl, hl, fun g w5 hb hg hor hw => ?_⟩
  have k5 : Kept [] w4 w5 := by
    rcases hw with rfl | rfl
    · exact Kept.refl [] _
    · exact (Kept.refl [] w4).alloc _
  obtain ⟨W, s1, s2, s3⟩ := store_cells (P := Tryd.prog) (X := cellsR R.reg ev sn tm R.k) hb (by rw [hl]; rfl) (cellsR_one (by rw [f1]; rfl) (by rw [f2]; rfl) (by rw [f3]; rfl))
  have keepR : ∀ {k : Nat} {x : Value} {rs : List (List Value)}, ReadsR k w4 x rs → (∀ g', x.ownBlock = some g' → n ≤ g') → Wide k rs → 0 < k → ReadsR k W x rs := fun {k x rs} hr hx hwd hk0 => by
    rcases hor with hor | ⟨-, rfl⟩
    · exact (hr.keep k5).kept s3 (fun g' h' h2 => by have := hx g' h'; simp at h2; omega)
    · by_cases hne : rs = []
      · subst hne
        obtain ⟨a, cap, e, q1, q2, q3, q4⟩ := hr
        exact ⟨a, cap, e, q1, q2, q3, fun h => absurd rfl h⟩
      · obtain ⟨g', e1, e2⟩ := hr.lt hwd hk0 hne
        exact (hr.keep k5).kept s3 (fun g'' h' h2 => by rw [e1] at h'; injection h' with h'; subst h'; simp at h2; omega)
  exact ⟨W, s1, ⟨ev, sn, tm, ⟨s2, keepR h1 n1 (wideE _) (by omega), keepR h2 n2 (wideS _) (by omega), keepR h3 n3 (wideT _) (by omega), h8⟩, fun g hg => Nat.le_trans hn (n1 g hg), fun g hg => Nat.le_trans hn (n2 g hg), fun g hg => Nat.le_trans hn (n3 g hg)⟩, (K.then k5).trans s3 (fun x hx => .inr (by simp at hx; omega)), hg⟩
end Go.Proofs.YtngnenbidpojeaaDoor
/-
  InterpEvents' walk.
-/
namespace Go.Proofs.YtngnenbidpojeaaDoor
open Go.RowKit
set_option maxRecDepth 100000
set_option linter.unusedVariables false
theorem box3 (w : World) (o0 o1 o2 : Obj) : ∃ W, ((w.alloc o0).alloc o1).alloc o2 = W ∧ Kept [] w W ∧ W.heap.size = w.heap.size + 3 ∧ W.heap[w.heap.size]? = some o0 ∧ W.heap[w.heap.size + 1]? = some o1 ∧ W.heap[w.heap.size + 1 + 1]? = some o2 := by
  refine ⟨_, rfl, (((Kept.refl [] w).alloc _).alloc _).alloc _, by simp, ?_, ?_, ?_⟩
  · rw [Below.heap_alloc _ _ _ (by simp <;> omega), Below.heap_alloc _ _ _ (by simp)]; exact heap_alloc_new w _
  · rw [Below.heap_alloc _ _ _ (by simp)]
    have := heap_alloc_new (w.alloc o0) o1
    simpa using this
  · have := heap_alloc_new ((w.alloc o0).alloc o1) o2
    simpa using this
theorem doA_len (b : List Int) : ∀ (l : List Ev), (doA b l).length = b.length := fun l => by
  induction l generalizing b with
  | nil => rfl
  | cons e l ih => show (doA (b.set e.r e.v) l).length = _; rw [ih, List.length_set]
/-- What is known of any answer. -/
structure RunF (reg : List Int) (now : Int) (R : Rsl × Int) : Prop where
  k : R.1.k ≤ 500
  sent : R.1.sent.length ≤ 4
  err : R.2 ≠ 0 → R.1 = Rsl.none R.1.k ∧ (R.1.k = 500 ∨ R.2 ≠ 11)
  ok : R.2 = 0 → R.1.reg = doA reg R.1.ev ∧ (∀ e ∈ R.1.ev, e.r ≤ 7) ∧ (∀ t ∈ R.1.tm, t.can = false → now ≤ t.due ∧ 1 ≤ t.per)
theorem run_facts {p : Pg} {l : Lt} {now : Int} {reg : List Int} (hO : OkP p) : RunF reg now (resI p reg l now) := by
  unfold resI
  by_cases hm : mayI p l now = true
  · rw [if_pos hm]
    have hf := run_fine (l := l) (formed_named (may_parts hm).1 hO).1 500 0 _ (Fine.start (reg0 := reg) (now := now))
    cases hr : runI p l now 500 0 (Mc.start reg) with
    | ok m k =>
      rw [hr] at hf
      obtain ⟨h1, h2⟩ := hf
      exact ⟨by show k ≤ 500; omega, h1.sent, fun h => absurd rfl h, fun _ => ⟨h1.reg, h1.ev, h1.tm⟩⟩
    | err e k =>
      rw [hr] at hf
      obtain ⟨h1, h2, h3⟩ := hf
      refine ⟨by show k ≤ 500; omega, by show 0 ≤ 4; omega, fun _ => ⟨rfl, ?_⟩, fun h => ?_⟩
      · show k = 500 ∨ e ≠ 11
        by_cases h11 : e = 11
        · exact .inl (by have := h2 h11; omega)
        · exact .inr h11
      · have h : e = 0 := h
        omega
  · rw [if_neg hm]
    exact ⟨by show 0 ≤ 500; omega, by show 0 ≤ 4; omega, fun _ => ⟨rfl, .inr (by decide)⟩, fun h => absurd h (by decide)⟩
section
variable {w : World}
end
end Go.Proofs.YtngnenbidpojeaaDoor
/-
  InterpRuns' walk.
-/
namespace Go.Proofs.YtngnenbidpojeaaDoor
open Go.RowKit
set_option maxRecDepth 100000
set_option linter.unusedVariables false
theorem run_sound {reg : List Int} {p : Pg} {l : Lt} {now : Int} (hb : Base p l now) (hN : ∀ i ∈ p.code, Named i) (hT : ∀ i ∈ p.code, Told p i) : ∀ (f k : Nat) (m : Mc), Sound reg now k m → ∀ m' k', runI p l now f k m = .ok m' k' → Sound reg now k' m' ∧ k' ≤ k + f
  | 0, k, m, h, m', k', e => by
    unfold runI at e
    cases hc : p.code[m.at_]? with
    | none => rw [hc] at e; simp at e; obtain ⟨rfl, rfl⟩ := e; exact ⟨h, by omega⟩
    | some i => rw [hc] at e; cases e
  | f + 1, k, m, h, m', k', e => by
    unfold runI at e
    cases hc : p.code[m.at_]? with
    | none => rw [hc] at e; simp at e; obtain ⟨rfl, rfl⟩ := e; exact ⟨h, by omega⟩
    | some i =>
      rw [hc] at e
      dsimp only at e
      have hmem := List.mem_of_getElem? hc
      have hs := h.step hb (hN i hmem) (hT i hmem)
      cases ho : oneI p l now m i with
      | err x => rw [ho] at e; cases e
      | halt m2 =>
        rw [ho] at e hs
        simp at e
        obtain ⟨rfl, rfl⟩ := e
        exact ⟨hs, by omega⟩
      | go m2 =>
        rw [ho] at e hs
        obtain ⟨h1, h2⟩ := run_sound hb hN hT f (k + 1) m2 hs m' k' e
        exact ⟨h1, by omega⟩
theorem run_small {reg : List Int} {p : Pg} {l : Lt} {now : Int} (hO : OkP p) (hlo : l.ok) (hn : I64 now) (hr : ∀ z ∈ reg, I64 z) : (resI p reg l now).1.ev.length ≤ 900 ∧ (resI p reg l now).1.tm.length ≤ 900 := by
  unfold resI
  by_cases hm : mayI p l now = true
  · rw [if_pos hm]
    obtain ⟨h1, h2, h3⟩ := may_parts hm
    obtain ⟨f1, f2, f3, f4⟩ := formed_parts h1
    obtain ⟨g1, g2⟩ := formed_named h1 hO
    cases hc : runI p l now 500 0 (Mc.start reg) with
    | ok m k =>
      obtain ⟨hs, hk⟩ := run_sound ⟨f3, hlo, h2, h3, hn⟩ g1 g2 500 0 _ (Sound.start (now := now) hr) m k hc
      have e1 := hs.wide.few
      have e2 := hs.few
      exact ⟨by show m.ev.length ≤ 900; omega, by show m.tm.length ≤ 900; omega⟩
    | err e k => exact ⟨by show 0 ≤ 900; omega, by show 0 ≤ 900; omega⟩
  · rw [if_neg hm]
    exact ⟨by show 0 ≤ 900; omega, by show 0 ≤ 900; omega⟩
section
variable {w : World}
end
end Go.Proofs.YtngnenbidpojeaaDoor
/-
  What any run comes to; an actor behind a turn may be.
-/
namespace Go.Proofs.YtngnenbidpojeaaDoor
set_option maxRecDepth 100000
set_option linter.unusedVariables false
theorem resI_fit {reg : List Int} {p : Pg} {l : Lt} {now : Int} (hO : OkP p) (hlo : l.ok) (hn : I64 now) (hr : ∀ z ∈ reg, I64 z) : FitR (resI p reg l now).1 := by
  have hF := run_facts (p := p) (l := l) (now := now) (reg := reg) hO
  have hs := run_small hO hlo hn hr
  refine ⟨hs.1, hs.2, hF.sent, hF.k, ?_, ?_⟩ <;> (unfold resI; by_cases hm : mayI p l now = true)
  · rw [if_pos hm]
    obtain ⟨h1, h2, h3⟩ := may_parts hm
    obtain ⟨f1, f2, f3, f4⟩ := formed_parts h1
    obtain ⟨g1, g2⟩ := formed_named h1 hO
    cases hc : runI p l now 500 0 (Mc.start reg) with
    | ok m k =>
      obtain ⟨hs, hk⟩ := run_sound ⟨f3, hlo, h2, h3, hn⟩ g1 g2 500 0 _ (Sound.start (now := now) hr) m k hc
      exact fun e he => ⟨hs.fine.ev e he, hs.wide.ev e he⟩
    | err e k => exact (fit_none 0 (by omega)).evs
  · rw [if_neg hm]
    exact (fit_none 0 (by omega)).evs
  · rw [if_pos hm]
    obtain ⟨h1, h2, h3⟩ := may_parts hm
    obtain ⟨f1, f2, f3, f4⟩ := formed_parts h1
    obtain ⟨g1, g2⟩ := formed_named h1 hO
    cases hc : runI p l now 500 0 (Mc.start reg) with
    | ok m k =>
      obtain ⟨hs, hk⟩ := run_sound ⟨f3, hlo, h2, h3, hn⟩ g1 g2 500 0 _ (Sound.start (now := now) hr) m k hc
      exact fun e he => ⟨((isKey_iff _).1 (hs.wide.sent e he).1).2, (hs.wide.sent e he).2⟩
    | err e k => exact (fit_none 0 (by omega)).snd
  · rw [if_neg hm]
    exact (fit_none 0 (by omega)).snd
theorem doA_64 (l : List Ev) : ∀ (b : List Int), (∀ z ∈ b, I64 z) → (∀ e ∈ l, I64 e.v) → ∀ z ∈ doA b l, I64 z := by
  induction l with
  | nil => intro b h _; exact h
  | cons e l ih => intro b h he; exact ih _ (doE_I64 h (he e (by simp))) (fun y hy => he y (by simp [hy]))
theorem GoodJ.st64 {j : Jn} (h : GoodJ j) : ∀ z ∈ stJ j, I64 z := doA_64 _ _ h.b64 fun e he => (h.ev e he).2
theorem GoodJ.st8 {j : Jn} (h : GoodJ j) : (stJ j).length = 8 := (doA_len _ _).trans h.b8
end Go.Proofs.YtngnenbidpojeaaDoor
/-
  Encode of a journal.
-/
namespace Go.Proofs.YtngnenbidpojeaaDoor
set_option maxRecDepth 100000
open Go.RowKit
set_option linter.unusedVariables false
section
variable {w0 w w' : World} {p q : Nat} {v : Value} {l : List UInt8}
theorem wq_int (h : Wq w0 w q v l) {z : Int} (hz : I64 z) (hb : l.length ≤ 1000000) : Calls Tryd.prog 73 #[.pointer (some ⟨q, 0, none⟩), Iv z] w fun e w' => e = .returned (.tuple #[]) ∧ ∃ v', Wq w0 w' q v' (l ++ enc (fold z)) ∧ Kept (foot q v) w w' := by
  refine (wint_any q v l z w h.1 hz.1 hz.2 (by omega)).mono ?_
  rintro e w' ⟨rfl, L⟩
  exact ⟨rfl, h.laid L⟩
end
theorem encI_length : ∀ (l : List Int), (encI l).length ≤ l.length * 9
  | [] => by simp [encI]
  | z :: l => by
    have h1 := encI_length l
    have h2 := enc_length (fold z)
    unfold encI at *
    simp only [List.flatMap_cons, List.length_append, List.length_cons]
    omega
theorem encV_length : ∀ (l : List Ev), (encV l).length ≤ l.length * 18
  | [] => by simp [encV]
  | e :: l => by
    have h1 := encV_length l
    have h2 := enc_length (fold e.v)
    have h3 := enc_length e.r
    unfold encV at *
    simp only [List.flatMap_cons, List.length_append, List.length_cons]
    omega
theorem encI_take {l : List Int} {j : Nat} {y : Int} (h : l[j]? = some y) : encI (l.take (j + 1)) = encI (l.take j) ++ enc (fold y) := by
  rw [List.take_add_one, h]
  simp [encI]
theorem encV_take {l : List Ev} {j : Nat} {y : Ev} (h : l[j]? = some y) : encV (l.take (j + 1)) = encV (l.take j) ++ (enc y.r ++ enc (fold y.v)) := by
  rw [List.take_add_one, h]
  simp [encV]
section
variable {w : World} {p : Nat} {j : Jn}
set_option maxHeartbeats 2000000 in
theorem encode21 (hJ : IsJ w p j) (hG : GoodJ j) : Calls Tryd.prog 53 #[.pointer (some ⟨p, 0, none⟩)] w fun e w' => NewB w (encJn j) e w' := by
  have HJ := Hid.mk hJ
  have HG := Hid.mk hG
  have hln := hJ.len
  have e1 := enc_length j.ver
  have e2 := enc_length j.ev.length
  have hb8 := hG.b8
  have hlI := encI_length j.base
  have ha : (List.map (fun n => Iv n) j.base) = BI j.base := rfl
  clear hJ hG ha
  go_enter Tryd.func53, Tryd.ntmps53
  go_wp2_with fail
  refine (newW _).mono ?_
  rintro e w2 ⟨q, rfl, hW2, k2, hq2⟩
  have W2 : Wq w w2 q (.slice none 0 0) [] := ⟨hW2, hq2, fresh_nil _ _, k2⟩
  have c2 := (HJ.out.kept0 k2).isP.ver
  have H3 := Hid.mk (wq_num W2 (n := j.ver) HG.out.v64 (by simp))
  clear W2 hW2 k2 hq2
  go_wp2_with fail
  refine H3.out.mono ?_
  rintro e w4 ⟨rfl, v4, W4, -⟩
  clear c2 H3
  rw [List.nil_append] at W4
  have h4 := (HJ.out.kept0 W4.2.2.2).isP
  have hld : (Instr.loadAt 58 (.pointer (some ⟨p, 0, none⟩))).run Tryd.prog w4 = .ok (.agg (BI j.base).toArray) w4 := run_loadAt_mid w4 p 0 58 _ _ h4.rangeA Tryd.underlying58 rfl (by rw [BI_length, hb8]; exact size29)
  have HW4 := Hid.mk W4
  clear W4 h4
  generalize hB : enc j.ver = B1 at *
  have HB1 := Hid.mk hB
  clear hB
  go_wp2_with (first | (refine wpList_load_run 58 (.tmp 19) rfl rfl _ rfl _ hld ?_))
  clear hld
  go_loopw [21] (fun i wr => ∃ k : Nat, i = .int .i64 (k : Int) ∧ k ≤ 8 ∧ Hid (∃ v, Wq w wr q v (B1 ++ encI (j.base.take k)))) (fun i _ => 8 - (intOf i).toNat)
  case atStart => exact ⟨0, rfl, by omega, Hid.mk ⟨v4, by simpa [encI] using HW4.out⟩⟩
  case round =>
    obtain ⟨k, rfl, hk, hH⟩ := hrel
    obtain ⟨v6, W6⟩ := hH.out
    have hlK := encI_length (j.base.take k)
    rw [List.length_take] at hlK
    by_cases hlt : k < 8
    · have hkI : (k : Int) < 8 := by omega
      obtain ⟨y, hy⟩ : ∃ y, j.base[k]? = some y := ⟨_, List.getElem?_eq_getElem (by omega)⟩
      have hix : ∀ W : World, (Instr.index 58 (.agg (BI j.base).toArray) (.int .i64 (k : Int))).run Tryd.prog W = .ok (Iv y) W := fun W => index29 hb8 hy W
      have H8 := Hid.mk (wq_int W6 (z := y) (HG.out.b64 y (List.mem_of_getElem? hy)) (by rw [List.length_append]; omega))
      have HE := Hid.mk (encI_take hy)
      clear hH W6 hy
      go_wp2_with fail
      refine H8.out.mono ?_
      rintro e w8 ⟨rfl, v8, W8, -⟩
      have HW8 : Hid (∃ v, Wq w w8 q v (B1 ++ encI (j.base.take (k + 1)))) := ⟨v8, by rw [HE.out, ← List.append_assoc]; exact W8⟩
      clear H8 W8 hix
      go_wp2_with fail
      go_roundw
      case rel => exact ⟨k + 1, by go_num, by omega, HW8⟩
      case measure => simp [intOf]; omega
    · obtain rfl : k = 8 := by omega
      have hJ6 := HJ.out.kept0 W6.2.2.2
      have c6 := hJ6.isP.count
      rw [List.take_of_length_le (by omega)] at W6 hlK
      have H8 := Hid.mk (wq_num W6 (n := j.ev.length) (by unfold U64; omega) (by rw [List.length_append]; omega))
      have g0 : IntKind.u64.wrap (j.ev.length : Int) = (j.ev.length : Int) := by rw [IntKind.wrap_u64]; omega
      have g1 : (0 : Int) ≤ (j.ev.length : Int) := by omega
      clear hH W6 hJ6
      generalize hn : j.ev.length = n at *
      have HN := Hid.mk hn
      clear hn
      go_wp2_with fail
      refine H8.out.mono ?_
      rintro e w8 ⟨rfl, v8, W8, -⟩
      have HC := Hid.mk (behind31 (HJ.out.kept0 W8.2.2.2))
      rw [HN.out] at HC
      have HW8 := Hid.mk W8
      clear H8 W8 c6
      go_wp2_with fail
      refine HC.out.mono ?_
      rintro e w9 ⟨rfl, k9⟩
      have HW9 := Hid.mk (HW8.out.kept0 k9)
      have hX1 : (B1 ++ encI j.base ++ enc n).length ≤ 90 := by rw [List.length_append, List.length_append]; omega
      generalize hX : B1 ++ encI j.base ++ enc n = X at *
      have HX := Hid.mk hX
      clear HC HW8 k9 hX
      go_wp2_with fail
      go_loopw [38] (fun i wr => ∃ k : Nat, i = .int .i64 (k : Int) ∧ k ≤ n ∧ Hid (∃ v, Wq w wr q v (X ++ encV (j.ev.take k)))) (fun i _ => n - (intOf i).toNat)
      case atStart => exact ⟨0, rfl, by omega, Hid.mk ⟨v8, by simpa [encV] using HW9.out⟩⟩
      case round =>
        obtain ⟨k, rfl, hk2, hH⟩ := hrel
        obtain ⟨v10, W10⟩ := hH.out
        have hlK2 := encV_length (j.ev.take k)
        rw [List.length_take] at hlK2
        by_cases hlt2 : k < n
        · have hkI2 : (k : Int) < (n : Int) := by omega
          have hnI : (n : Int) ≤ 16 := by omega
          obtain ⟨y, hy⟩ : ∃ y, j.ev[k]? = some y := ⟨_, List.getElem?_eq_getElem (by have := HN.out; omega)⟩
          obtain ⟨d0, d1⟩ := (HJ.out.kept0 W10.2.2.2).at hy
          obtain ⟨y7, yv⟩ := HG.out.ev y (List.mem_of_getElem? hy)
          obtain ⟨W11, e11, k11, hz11, hb11⟩ := box1 wr (.cells #[Iv (y.r : Int), Iv y.v] 82)
          have H12 := Hid.mk (wq_num (W10.kept0 k11) (n := y.r) (by unfold U64; omega) (by rw [List.length_append]; omega))
          have HB11 : Hid (wr.heap.size ∉ foot q v10) := (W10.kept0 k11).notin hb11 (by decide)
          have HBX := Hid.mk hb11
          have HE := Hid.mk (encV_take hy)
          have t1 := enc_length y.r
          have hXl : (X ++ encV (j.ev.take k)).length ≤ 378 := by rw [List.length_append]; omega
          have g2 : IntKind.u64.wrap (y.r : Int) = (y.r : Int) := by rw [IntKind.wrap_u64]; omega
          have g3 : (0 : Int) ≤ (y.r : Int) := by omega
          have E11 := Hid.mk e11
          clear hH W10 hy k11 hz11 e11 hb11
          go_wp2_with fail
          rw [E11.out]
          refine H12.out.mono ?_
          rintro e w12 ⟨rfl, v12, W12, k12⟩
          have hb12 := k12.keeps HBX.out HB11.out
          obtain ⟨-, c12⟩ := cells2 hb12
          have H13 := Hid.mk (wq_int W12 yv (by rw [List.length_append]; omega))
          clear W12 k12 hb12 H12 HBX HB11 d0 d1
          go_wp2_with fail
          refine H13.out.mono ?_
          rintro e w13 ⟨rfl, v13, W13, -⟩
          have HW13 : Hid (∃ v, Wq w w13 q v (X ++ encV (j.ev.take (k + 1)))) := ⟨v13, by rw [HE.out]; simpa [List.append_assoc] using W13⟩
          clear W13 H13 c12
          go_wp2_with fail
          go_roundw
          case rel => exact ⟨k + 1, by go_num, by omega, HW13⟩
          case measure => simp [intOf]; omega
        · obtain rfl : k = n := by omega
          have HBt := Hid.mk (wbytes_any q v10 _ wr W10.1 (by rw [List.length_append]; omega))
          have HKr := Hid.mk W10.2.2.2
          clear W10 hH
          go_wp2_with fail
          refine HBt.out.mono ?_
          rintro e w13 ⟨v13, rfl, hO13, k13, hf13⟩
          go_wp2_with fail
          go_ret
          refine ⟨v13, rfl, ?_, HKr.out.trans k13 (by simp), fun g hg => ?_⟩
          · rw [List.take_of_length_le (by have := HN.out; omega), ← HX.out, ← HB1.out] at hO13
            unfold encJn
            rw [HN.out]
            simpa [List.append_assoc] using hO13
          · have := hf13 g hg
            have := HKr.out.size
            omega
end
end Go.Proofs.YtngnenbidpojeaaDoor
