import Derived.Deep.RegionHeld3
import Derived.Test.YtngnenbidpojeaaGreatDoorQ04
import Derived.Test.YtngnenbidpojeaaGreatDoorQ08
import Derived.Test.YtngnenbidpojeaaGreatDoorQ09
import Derived.Test.YtngnenbidpojeaaGreatDoorQ11
import Derived.Test.YtngnenbidpojeaaGreatDoorQ12
/-
  All of an outbox.
-/
namespace Go.Proofs.YtngnenbidpojeaaGreatDoor
set_option maxRecDepth 100000
open Go.RowKit
set_option linter.unusedVariables false
/-- A row of letters on their way, in memory of its own since w0, with their Args. -/
structure OwnY (t : TypeId) (w0 w : World) (v : Value) (qs : List Yq) : Prop where
  own : OwnsR t 5 w v (CY qs)
  args : ∀ y ∈ qs, OwnsJ w y.q.sl y.q.x.args
  fr : Fresh w0 v
  fra : ∀ y ∈ qs, Fresh w0 y.q.sl
theorem OwnY.nil (t : TypeId) (w0 w : World) : OwnY t w0 w (.slice none 0 0) [] := ⟨OwnsR.nil t 5 w, by simp, fresh_nil w0 0, by simp⟩
theorem OwnY.kept {t : TypeId} {w0 w w' : World} {v : Value} {qs : List Yq} {S : List Nat} (h : OwnY t w0 w v qs) (k : Kept S w w') (hS : ∀ g ∈ S, v.ownBlock ≠ some g ∧ ∀ y ∈ qs, y.q.sl.ownBlock ≠ some g) : OwnY t w0 w' v qs :=
  ⟨h.own.kept k (fun g hg hm => (hS g hm).1 hg), fun y hy => (h.args y hy).kept k (fun g hg hm => (hS g hm).2 y hy hg), h.fr, h.fra⟩
theorem OwnY.kept0 {t : TypeId} {w0 w w' : World} {v : Value} {qs : List Yq} (h : OwnY t w0 w v qs) (k : Kept [] w w') : OwnY t w0 w' v qs := h.kept k (by simp)
theorem OwnY.row {t : TypeId} {w0 w : World} {v : Value} {qs : List Yq} (h : OwnY t w0 w v qs) : ReadsR 5 w v (CY qs) := h.own.reads (CY_wide qs)
theorem rowY_at {w : World} {a : Option Addr} {n c : Nat} {l : List Yq} (h : ReadsR 5 w (.slice a n c) (CY l)) {j : Nat} {y : Yq} (hy : l[j]? = some y) : ∃ b o, a = some ⟨b, o, none⟩ ∧ w.cell? ⟨b, o + j * 5, none⟩ = some (Sv y.to) ∧ w.cell? ⟨b, o + j * 5 + 1, none⟩ = some (Sv y.q.x.fr) ∧ w.cell? ⟨b, o + j * 5 + 2, none⟩ = some (.int .u64 (y.q.x.ser : Int)) ∧ w.cell? ⟨b, o + j * 5 + 3, none⟩ = some (.int .i64 y.q.x.kind) ∧ w.cell? ⟨b, o + j * 5 + 4, none⟩ = some y.q.sl := by
  obtain ⟨b, o, c', e, hc⟩ := ReadsR.at h j (cellsY y) (by simp [CY, hy])
  injection e with e _ _
  have h0 := hc 0 _ rfl
  have h1 := hc 1 _ rfl
  have h2 := hc 2 _ rfl
  have h3 := hc 3 _ rfl
  have h4 := hc 4 _ rfl
  rw [Nat.add_zero] at h0
  exact ⟨b, o, e, h0, h1, h2, h3, h4⟩
section
variable {w : World} {p : Nat} {own : List UInt8} {K : List La} {qs : List Yq}
end
end Go.Proofs.YtngnenbidpojeaaGreatDoor
/-
  The document's outbox: New, place, there, Serial.
-/
namespace Go.Proofs.YtngnenbidpojeaaGreatDoor
set_option maxRecDepth 100000
open Go.RowKit
set_option linter.unusedVariables false
/-- What the document's outbox may turn. -/
def footF (p : Nat) (v u : Value) : List Nat := p :: (v.ownBlock.toList ++ u.ownBlock.toList)
theorem mem_footF {p k : Nat} {v u : Value} : k ∈ footF p v u ↔ k = p ∨ v.ownBlock = some k ∨ u.ownBlock = some k := by simp [footF, Option.mem_toList]
/-- The document's outbox at block p: its letters are in the row v, its keys in the row u; all of it is new since w0. -/
structure IsF (w0 w : World) (p : Nat) (v u : Value) (own : List UInt8) (K : List La) (ms : List Yq) : Prop where
  box : w.heap[p]? = some (.cells #[Sv own, v, u] 124 (0, 0))
  ys : OwnY 131 w0 w v ms
  ks : OwnsR 198 2 w u (CK K)
  fru : Fresh w0 u
  fr : w0.heap.size ≤ p
section
variable {w0 w w' : World} {p pf : Nat} {v u : Value} {own : List UInt8} {K : List La} {qs ms : List Yq}
theorem IsF.lt (h : IsF w0 w p v u own K ms) : p < w.heap.size := lt_of_block h.box
theorem IsF.kept0 (hF : IsF w0 w pf v u own K ms) (k : Kept [] w w') : IsF w0 w' pf v u own K ms := ⟨k.keeps hF.box (by simp), hF.ys.kept0 k, hF.ks.kept k (by simp), hF.fru, hF.fr⟩
theorem IsO.bx (h : IsO w p own K qs) : ∃ cs, w.heap[p]? = some (.cells cs 168 (0, 0)) := by obtain ⟨cs, hb, -⟩ := h.box; exact ⟨_, hb⟩
/-- What turns the document's outbox leaves the program's. -/
theorem IsO.besides {own' : List UInt8} {K' : List La} (hB : IsO w p own K qs) (hF : IsF w0 w pf v u own' K' ms) (k : Kept (footF pf v u) w w') : IsO w' p own K qs := by
  obtain ⟨cs, hb⟩ := hB.bx
  refine hB.kept k (fun hm => ?_) (fun y hy g hg hm => ?_)
  · rcases mem_footF.1 hm with h | h | h
    · exact box_ne hb hF.box (by decide) h
    · exact ownsR_ne hF.ys.own hb (by decide) h
    · exact ownsR_ne hF.ks hb (by decide) h
  · rcases mem_footF.1 hm with h | h | h
    · subst h; exact ownsJ_ne (hB.args y hy) hF.box (by decide) hg
    · exact own_apart (hB.args y hy) hF.ys.own (by decide) hg h
    · exact own_apart (hB.args y hy) hF.ks (by decide) hg h
/-- What turns the program's outbox leaves the document's. -/
theorem IsF.besides {own' : List UInt8} {K' : List La} (hF : IsF w0 w pf v u own K ms) (hB : IsO w p own' K' qs) (k : Kept [p] w w') : IsF w0 w' pf v u own K ms := by
  obtain ⟨cs, hb⟩ := hB.bx
  refine ⟨k.keeps hF.box (by simp; exact box_ne hF.box hb (by decide)), hF.ys.kept k (fun g hg => ?_), hF.ks.kept k (fun g hg hm => ?_), hF.fru, hF.fr⟩
  · simp at hg
    subst hg
    exact ⟨ownsR_ne hF.ys.own hb (by decide), fun y hy => ownsJ_ne (hF.ys.args y hy) hb (by decide)⟩
  · simp at hm
    subst hm
    exact ownsR_ne hF.ks hb (by decide) hg
/-- As IsF of the keys alone. -/
theorem bytesLess_eq (a b : List UInt8) : Op.bytesLess a b = decide (a < b) := by
  induction a generalizing b with
  | nil => cases b <;> simp [Op.bytesLess]
  | cons x a ih =>
    cases b with
    | nil => simp [Op.bytesLess]
    | cons y b =>
      rw [Op.bytesLess, Bool.eq_iff_iff]
      simp [List.cons_lt_cons_iff, ih]
end
end Go.Proofs.YtngnenbidpojeaaGreatDoor
/-
  The document's outbox: set.
-/
namespace Go.Proofs.YtngnenbidpojeaaGreatDoor
set_option maxRecDepth 100000
open Go.RowKit
set_option linter.unusedVariables false
theorem flat_set {k : Nat} : ∀ {rs : List (List Value)} (h : Wide k rs) {j : Nat} {r : List Value}, rs[j]? = some r → ∀ (i : Nat) (x : Value), i < k → (rs.set j (r.set i x)).flatten = rs.flatten.set (j * k + i) x
  | [], h, j, r, hj, i, x, hi => by simp at hj
  | s :: rs, h, 0, r, hj, i, x, hi => by
    simp at hj
    subst hj
    have hl := (h s (by simp)).1
    rw [List.set_cons_zero, List.flatten_cons, List.flatten_cons, Nat.zero_mul, Nat.zero_add, List.set_append_left _ _ (by omega)]
  | s :: rs, h, j + 1, r, hj, i, x, hi => by
    have hl := (h s (by simp)).1
    have ih := flat_set (rs := rs) (fun q hq => h q (by simp [hq])) (j := j) (by simpa using hj) i x hi
    rw [List.set_cons_succ, List.flatten_cons, List.flatten_cons, ih, List.set_append_right _ _ (by rw [hl, Nat.add_mul]; omega), hl]
    congr 2
    rw [Nat.add_mul]
    omega
/-- A cell of a row of its own is stored into. -/
theorem OwnsR.set {e : TypeId} {k : Nat} {w : World} {b o n c : Nat} {rs : List (List Value)} (h : OwnsR e k w (.slice (some ⟨b, o, none⟩) n c) rs) (hw : Wide k rs) {j : Nat} {r : List Value} (hj : rs[j]? = some r) {i : Nat} (hi : i < k) (x : Value) :
    o = 0 ∧ w.frozen? ⟨b, j * k + i, none⟩ = false ∧ OwnsR e k (w.setCell ⟨b, j * k + i, none⟩ x) (.slice (some ⟨b, o, none⟩) n c) (rs.set j (r.set i x)) ∧ Kept [b] w (w.setCell ⟨b, j * k + i, none⟩ x) := by
  have hlt := get_lt hj
  rcases h.2 with ⟨h0, -⟩ | ⟨g, cap, cur, e1, hb, hg, h1, h2, h3, h4⟩
  · cases h0
  · injection e1 with e1 e2 e3
    injection e1 with e1
    injection e1 with e1 e4 _
    subst e1 e2 e3 e4
    refine ⟨rfl, by simp [World.frozen?, hg], ⟨?_, .inr ⟨b, c, cur.setIfInBounds (j * k + i) x, by rw [List.length_set], hb, set_at hg, by rw [List.length_set]; exact h1, h2, by rw [Array.size_setIfInBounds]; exact h3, ?_⟩⟩, (Kept.refl [b] w).setCell (p := ⟨b, j * k + i, none⟩) (.inl (by simp)) x⟩
    · rw [flat_set hw hj i x hi, List.length_set, List.length_set]; exact h.1
    · rw [flat_set hw hj i x hi, Array.toList_setIfInBounds, List.length_set, ← h4]
      have hlt2 : j * k + i < rs.length * k := by
        have : (j + 1) * k ≤ rs.length * k := Nat.mul_le_mul_right k hlt
        rw [Nat.add_mul] at this
        omega
      rw [List.take_set]
section
variable {w0 w w' : World} {p pf : Nat} {v u : Value} {own : List UInt8} {K : List La} {qs ms : List Yq}
theorem run_cutH {T e : TypeId} {k b : Nat} {z : Value} (R : RowT T e k b z) (W : World) (a : Option Addr) (n c j : Nat) (hj : j ≤ c) : (Instr.slice T (.slice a n c) none (some (.int .i64 (j : Int))) none).run Tryz.prog W = .ok (.slice (cutA a c 0 k) j c) W := by
  rw [run_slice_h W T a n c (by rw [R.elem]; exact R.under) .i64 j (by omega) (by omega), R.elem, R.size]
  simp [Result.andThen, sliced, cutA]
end
end Go.Proofs.YtngnenbidpojeaaGreatDoor
/-
  The document's outbox: Send.
-/
namespace Go.Proofs.YtngnenbidpojeaaGreatDoor
set_option maxRecDepth 100000
open Go.RowKit
set_option linter.unusedVariables false
theorem rt71 : RowT 121 131 5 72 (.agg #[.string ⟨#[]⟩, .string ⟨#[]⟩, .int .u64 0, .int .i64 0, .slice none 0 0]) := ⟨Tryz.underlying121, by kernel_rfl, rfl, by omega, by omega⟩
theorem OwnY.app {w0 w : World} {v : Value} {qs : List Yq} (h : OwnY 131 w0 w v qs) (y : Yq) (hq : OwnsJ w y.q.sl y.q.x.args) (hf : Fresh w0 y.q.sl) (hs : w0.heap.size ≤ w.heap.size) (hn : qs.length ≤ 900000) : ∃ ad c w', (Builtin.append_ #[121, 121] 121 #[v, .slice (some ⟨w.heap.size, 0, none⟩) 1 1]).run Tryz.prog (w.alloc (.cells #[Sv y.to, Sv y.q.x.fr, .int .u64 (y.q.x.ser : Int), .int .i64 y.q.x.kind, y.q.sl] 131)) = .ok (.slice ad (qs.length + 1) c) w' ∧ OwnY 131 w0 w' (.slice ad (qs.length + 1) c) (qs ++ [y]) ∧ Kept v.ownBlock.toList w w' := by
  obtain ⟨ad, c, w', hrun, ho, k, hN⟩ := append_rowR rt71 h.own (cellsY y) rfl (fun u hu => by simp [cellsY] at hu; rcases hu with rfl | rfl | rfl | rfl | rfl <;> rfl) (by rw [CY_length]; exact hn) 131 (0, 0) 121
  rw [CY_length] at *
  refine ⟨ad, c, w', hrun, ⟨?_, fun z hz => ?_, fun g hg => ?_, fun z hz => ?_⟩, k⟩
  · rw [CY_append]; exact ho
  · have hz' : OwnsJ w z.q.sl z.q.x.args := by
      rcases List.mem_append.1 hz with hz | hz
      · exact h.args z hz
      · simp at hz; subst hz; exact hq
    exact hz'.kept k (fun g hg hm => by rw [Option.mem_toList] at hm; exact own_apart hz' h.own (by decide) hg hm)
  · rcases hN g hg with h1 | h1
    · exact h.fr g h1
    · omega
  · rcases List.mem_append.1 hz with hz | hz
    · exact h.fra z hz
    · simp at hz; subst hz; exact hf
theorem ownR_form {e : TypeId} {k : Nat} {w : World} {v : Value} {rs : List (List Value)} (h : OwnsR e k w v rs) : (v = .slice none 0 0 ∧ rs.length = 0) ∨ ∃ g cap cur, v = .slice (some ⟨g, 0, none⟩) rs.length cap ∧ w.heap[g]? = some (.cells cur e (0, 0)) := by
  rcases h.2 with ⟨rfl, h0⟩ | ⟨g1, cap, cur, rfl, _, hb, _⟩
  · exact .inl ⟨rfl, h0⟩
  · exact .inr ⟨g1, cap, cur, rfl, hb⟩
section
variable {w0 w w' : World} {p pf : Nat} {v u : Value} {own : List UInt8} {K : List La} {qs ms : List Yq}
end
end Go.Proofs.YtngnenbidpojeaaGreatDoor
/-
  Send of an outbox.
-/
namespace Go.Proofs.YtngnenbidpojeaaGreatDoor
set_option maxRecDepth 100000
open Go.RowKit
set_option linter.unusedVariables false
section
variable {w : World} {p : Nat} {own : List UInt8} {K : List La} {qs : List Yq}
/-- A Send that there can't be. -/
theorem send20_arg (to : List UInt8) (kind : Int) (a : Option Addr) (n c : Nat) (pp : Option Addr) (hl : to.length ≤ 281474976710656) (own : Bool) (hO : Calls Tryz.prog 80 #[.pointer pp] w fun e w' => e = .returned (.bool own) ∧ w = w') (hn : n ≤ 1000000) (h : own = false ∨ isKey to = false ∨ 4 < n) :
    Calls Tryz.prog 26 #[.pointer pp, Sv to, .int .i64 kind, .slice a n c] w fun e w' => e = .returned (.tuple #[Uv 0, .int .i64 1]) ∧ w = w' := by
  have HK := Hid.mk (isKey26 (w := w) to hl)
  have HO := Hid.mk hO
  clear hO
  cases own with
  | false =>
    go_enter Tryz.func26, Tryz.ntmps26
    go_wp2_with fail
    refine HO.out.mono ?_
    rintro e w1 ⟨rfl, rfl⟩
    go_wp2_with fail
    go_ret2
    exact ⟨rfl, rfl⟩
  | true =>
    cases hk : isKey to with
    | false =>
      rw [hk] at HK
      clear h hk
      go_enter Tryz.func26, Tryz.ntmps26
      go_wp2_with fail
      refine HO.out.mono ?_
      rintro e w1 ⟨rfl, rfl⟩
      go_wp2_with fail
      refine HK.out.mono ?_
      rintro e w1 ⟨rfl, rfl⟩
      go_wp2_with fail
      go_ret2
      exact ⟨rfl, rfl⟩
    | true =>
      rw [hk] at HK h
      have g4 : (4 : Int) < (n : Int) := by rcases h with h | h | h; cases h; cases h; omega
      clear h hk
      go_enter Tryz.func26, Tryz.ntmps26
      go_wp2_with fail
      refine HO.out.mono ?_
      rintro e w1 ⟨rfl, rfl⟩
      go_wp2_with fail
      refine HK.out.mono ?_
      rintro e w1 ⟨rfl, rfl⟩
      go_wp2_with fail
      go_ret2
      exact ⟨rfl, rfl⟩
set_option maxHeartbeats 1000000 in
/-- A Send that finds no room, or no serial. -/
theorem send20_full (hB : IsO w p own K qs) (hup : Rise K) (hne : own ≠ []) (to : List UInt8) (kind : Int) (a : Option Addr) (n c : Nat) (hk : isKey to = true) (hn : n ≤ 4) (h : qs.length = 32 ∨ (hasK K to = false ∧ K.length = 64)) :
    Calls Tryz.prog 26 #[.pointer (some ⟨p, 0, none⟩), Sv to, .int .i64 kind, .slice a n c] w fun e w' => e = .returned (.tuple #[Uv 0, .int .i64 6]) ∧ Kept [] w w' := by
  have hkl := (isKey_iff to).1 hk
  have HK := Hid.mk (isKey26 (w := w) to (by omega))
  have HO := Hid.mk (owned34 hB)
  have ho : (!own.isEmpty) = true := by cases own with | nil => exact absurd rfl hne | cons _ _ => rfl
  rw [ho] at HO
  rw [hk] at HK
  have hc := hB.count
  have hl := hB.ln
  have g4 : ((4 : Int) < (n : Int)) = False := eq_false (by omega)
  by_cases h32 : qs.length = 32
  · rw [h32] at hc
    have hc : w.cell? ⟨p, 290, none⟩ = some (.int .i64 32) := hc
    clear h hB h32 hk hkl hl
    go_enter Tryz.func26, Tryz.ntmps26
    go_wp2_with fail
    refine HO.out.mono ?_
    rintro e w1 ⟨rfl, rfl⟩
    go_wp2_with fail
    refine HK.out.mono ?_
    rintro e w1 ⟨rfl, rfl⟩
    go_wp2_with fail
    go_ret2
    exact ⟨rfl, Kept.refl [] _⟩
  · have h2 : hasK K to = false ∧ K.length = 64 := by rcases h with h | h; exact absurd h h32; exact h
    have HN := Hid.mk (hasNext58 hB hup to)
    rw [h2.1, h2.2] at HN
    have e : (if (false : Bool) = true then decide (ser K to < 18446744073709551615) else decide ((64 : Nat) < 64)) = false := by simp
    rw [e] at HN
    have g32 : ((qs.length : Int) == 32) = false := by simp; omega
    clear h hB h32 hk hkl hl h2 e
    go_enter Tryz.func26, Tryz.ntmps26
    go_wp2_with fail
    refine HO.out.mono ?_
    rintro e w1 ⟨rfl, rfl⟩
    go_wp2_with fail
    refine HK.out.mono ?_
    rintro e w1 ⟨rfl, rfl⟩
    go_wp2_with fail
    refine HN.out.mono ?_
    rintro e w1 ⟨rfl, k1⟩
    go_wp2_with fail
    go_ret2
    exact ⟨rfl, k1⟩
set_option maxHeartbeats 1000000 in
/-- A Send. -/
theorem send20_ok (hB : IsO w p own K qs) (hup : Rise K) (hne : own ≠ []) (hol : own.length ≤ 1000) (to : List UInt8) (x : Lt) (a : Option Addr) (c : Nat) (hk : isKey to = true) (hn : x.args.length ≤ 4) (hx : ∀ W, Kept [p] w W → ReadsJ W (.slice a x.args.length c) x.args) (hfr : x.fr = own) (hser : x.ser = ser K to + 1) (h32 : qs.length < 32) (h64 : hasK K to = true ∨ K.length < 64) (hs : ser K to + 1 < 18446744073709551616) :
    Calls Tryz.prog 26 #[.pointer (some ⟨p, 0, none⟩), Sv to, .int .i64 x.kind, .slice a x.args.length c] w fun e w' => e = .returned (.tuple #[Uv (ser K to + 1), .int .i64 0]) ∧ ∃ a' c', IsO w' p own (setK K to (ser K to + 1)) (qs ++ [⟨to, x, a', c'⟩]) ∧ Kept [p] w w' ∧ Fresh w (.slice a' x.args.length c') := by
  have hkl := (isKey_iff to).1 hk
  have HK := Hid.mk (isKey26 (w := w) to (by omega))
  have HO := Hid.mk (owned34 hB)
  have ho : (!own.isEmpty) = true := by cases own with | nil => exact absurd rfl hne | cons _ _ => rfl
  rw [ho] at HO
  rw [hk] at HK
  have hc := hB.count
  have g4 : ((4 : Int) < (x.args.length : Int)) = False := eq_false (by omega)
  have HN := Hid.mk (hasNext58 hB hup to)
  have e : (if hasK K to = true then decide (ser K to < 18446744073709551615) else decide (K.length < 64)) = true := by
    split
    · simp; omega
    · rename_i hno
      rcases h64 with h | h
      · exact absurd h hno
      · simpa using h
  rw [e] at HN
  have g32 : ((qs.length : Int) == 32) = false := by simp; omega
  have HX := Hid.mk hx
  have HC1 : Hid (∀ W, Calls Tryz.prog 83 #[Sv to] W fun e w' => e = .returned (Sv to) ∧ Kept [] W w') := fun W => clone32 to (by omega)
  have HNX : Hid (∀ W, Kept [] w W → Calls Tryz.prog 84 #[.pointer (some ⟨p, 0, none⟩), Sv to] W fun e w' => e = .returned (Uv (ser K to + 1)) ∧ IsO w' p own (setK K to (ser K to + 1)) qs ∧ Kept [p] W w') := fun W k => next59 (hB.kept0 k) hup to h64 hs
  have HBX : Hid (∃ cs1, w.heap[p]? = some (.cells cs1 168 (0, 0))) := by obtain ⟨cs1, hb1, -⟩ := hB.box; exact ⟨_, hb1⟩
  have hpl := hB.lt
  have HXP : Hid (∀ W, Kept [p] w W → ReadsJ W (.slice a x.args.length c) x.args) := fun W k => hx W k
  rw [← hser] at HNX ⊢
  rw [← hfr] at hol ⊢
  rw [← hfr] at HNX
  have HKS : Hid (∃ K', setK K to x.ser = K') := ⟨_, rfl⟩
  obtain ⟨K', hK'⟩ := HKS.out
  rw [hK'] at HNX ⊢
  clear hB hk hkl e hK' HKS hx hfr hser hup hne
  go_enter Tryz.func26, Tryz.ntmps26
  go_wp2_with fail
  refine HO.out.mono ?_
  rintro e w1 ⟨rfl, rfl⟩
  go_wp2_with fail
  refine HK.out.mono ?_
  rintro e w1 ⟨rfl, rfl⟩
  go_wp2_with fail
  refine HN.out.mono ?_
  rintro e w1 ⟨rfl, k1⟩
  go_wp2_with fail
  refine (HC1.out _).mono ?_
  rintro e w2 ⟨rfl, k2⟩
  have k02 := k1.trans k2 (by simp)
  go_wp2_with fail
  refine (HNX.out _ k02).mono ?_
  rintro e w3 ⟨rfl, hB3, k3⟩
  have c3 := hB3.owner
  have hp3 := hB3.lt
  have k03 : Kept [p] w w3 := (k02.mono (by simp)).trans k3 (by simp)
  go_wp2_with fail
  obtain ⟨W4, e4, k4, hz4, hb4⟩ := box1 w3 (.cells #[Sv x.fr, .int .u64 (x.ser : Int), .int .i64 x.kind, .slice a x.args.length c] 81)
  rw [e4]
  have k04 : Kept [p] w W4 := k03.trans k4 (by simp)
  have HC := Hid.mk (copy17 x a c (HXP.out _ k04) (by omega) (by omega))
  obtain ⟨y0, y1, y2, y3⟩ := cells4 hb4
  have HB4 := Hid.mk (hB3.kept0 k4)
  clear hB3 c3 e4
  refine HC.out.mono ?_
  rintro e w5 ⟨a5, c5, rfl, hO5, k5, hf5⟩
  have HP5 := Hid.mk (push60 ⟨to, x, a5, c5⟩ (HB4.out.kept0 k5) h32 hO5)
  go_wp2_with fail
  refine HP5.out.mono ?_
  rintro e w6 ⟨rfl, hB6, k6⟩
  go_wp2_with fail
  go_ret2
  refine ⟨rfl, a5, c5, hB6, (k04.trans k5 (by simp)).trans k6 (by simp), fun g hg => ?_⟩
  have := hf5 g hg
  have := k04.size
  omega
end
end Go.Proofs.YtngnenbidpojeaaGreatDoor
/-
  The program's outbox and the document's, side by side.
-/
namespace Go.Proofs.YtngnenbidpojeaaGreatDoor
set_option maxRecDepth 100000
open Go.RowKit
set_option linter.unusedVariables false
section
variable {w0 w w' : World} {p pf : Nat} {v u : Value} {own : List UInt8} {K : List La} {qs ms : List Yq}
end
section
variable {w0 w w' : World} {p pf : Nat} {o : Ob} {B : Nat}
theorem GoodO.ne (g : GoodO o) : o.own ≠ [] ∧ o.own.length ≤ 40 := by
  have := (isKey_iff _).1 g.own
  refine ⟨fun e => ?_, this.2⟩
  rw [e] at this
  simp at this
end
end Go.Proofs.YtngnenbidpojeaaGreatDoor
/-
  Unpack, and the document's.
-/
namespace Go.Proofs.YtngnenbidpojeaaGreatDoor
open Go.RowKit
set_option linter.unusedVariables false
/-- Letters in memory of their own: the slice v owns the letters qs, each one's Args are a row of its own; all of it new since w0. -/
structure OwnL (w0 w : World) (v : Value) (qs : List Lq) : Prop where
  own : OwnsR 81 4 w v (CQ qs)
  args : ∀ q ∈ qs, OwnsJ w q.sl q.x.args
  fr : Fresh w0 v
  fra : ∀ q ∈ qs, Fresh w0 q.sl
theorem OwnL.nil (w0 w : World) : OwnL w0 w (.slice none 0 0) [] := ⟨OwnsR.nil 81 4 w, by simp, fresh_nil w0 0, by simp⟩
theorem OwnL.kept {S : List Nat} {w0 w w' : World} {v : Value} {qs : List Lq} (h : OwnL w0 w v qs) (k : Kept S w w') (hS : ∀ y ∈ S, v.ownBlock ≠ some y ∧ ∀ q ∈ qs, q.sl.ownBlock ≠ some y) : OwnL w0 w' v qs :=
  ⟨h.own.kept k (fun g hg hm => (hS g hm).1 hg), fun q hq => (h.args q hq).kept k (fun g hg hm => (hS g hm).2 q hq hg), h.fr, h.fra⟩
theorem OwnL.kept0 {w0 w w' : World} {v : Value} {qs : List Lq} (h : OwnL w0 w v qs) (k : Kept [] w w') : OwnL w0 w' v qs := h.kept k (by simp)
theorem OwnL.row {w0 w : World} {v : Value} {qs : List Lq} (h : OwnL w0 w v qs) : RowQ w v qs := h.own.reads (CQ_wide qs)
theorem OwnL.vals {w0 w : World} {v : Value} {qs : List Lq} (h : OwnL w0 w v qs) : ValsQ w qs := fun q hq => (h.args q hq).reads
/-- 'append(v, letter)'. -/
theorem OwnL.app {w0 w : World} {v : Value} {qs : List Lq} (h : OwnL w0 w v qs) (q : Lq) (hq : OwnsJ w q.sl q.x.args) (hf : Fresh w0 q.sl) (hs : w0.heap.size ≤ w.heap.size) (hn : qs.length ≤ 900000) : ∃ ad c w', (Builtin.append_ #[26, 26] 26 #[v, .slice (some ⟨w.heap.size, 0, none⟩) 1 1]).run Tryz.prog (w.alloc (.cells #[Sv q.x.fr, .int .u64 (q.x.ser : Int), .int .i64 q.x.kind, q.sl] 81)) = .ok (.slice ad (qs.length + 1) c) w' ∧ OwnL w0 w' (.slice ad (qs.length + 1) c) (qs ++ [q]) ∧ Kept v.ownBlock.toList w w' := by
  obtain ⟨ad, c, w', hrun, ho, k, hN⟩ := append_rowR rt28 h.own (cellsQ q) rfl (fun u hu => by simp [cellsQ] at hu; rcases hu with rfl | rfl | rfl | rfl <;> rfl) (by rw [CQ_length]; exact hn) 81 (0, 0) 26
  rw [CQ_length] at *
  refine ⟨ad, c, w', hrun, ⟨?_, fun y hy => ?_, fun g hg => ?_, fun y hy => ?_⟩, k⟩
  · rw [CQ_append]; exact ho
  · have hy' : OwnsJ w y.sl y.x.args := by
      rcases List.mem_append.1 hy with hy | hy
      · exact h.args y hy
      · simp at hy; subst hy; exact hq
    exact hy'.kept k (fun g hg hm => by rw [Option.mem_toList] at hm; exact own_apart hy' h.own (by decide) hg hm)
  · rcases hN g hg with h1 | h1
    · exact h.fr g h1
    · omega
  · rcases List.mem_append.1 hy with hy | hy
    · exact h.fra y hy
    · simp at hy; subst hy; exact hf
section
variable {w : World}
end
end Go.Proofs.YtngnenbidpojeaaGreatDoor
