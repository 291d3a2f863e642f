/-
  A List in memory: New, read.
-/
import Derived.Test.YthbopephcdohkaaTextsOf
import Derived.Test.YthbopephcdohkaaOnce
namespace Go.Proofs.Ythbopephcdohkaa
open Go.RowKit
set_option linter.unusedVariables false

/-- The seven cells of a List. -/
def Box (w : World) (p : Nat) (d k : Int) (u tv : Value) (wh : Bool) (m : Int) : Prop := w.heap[p]? = some (.cells #[.int .u32 d, .int .i32 k, .int .u32 0, u, tv, .bool wh, .int .i64 m] 59 (0, 0))

theorem Box.cells {w : World} {p : Nat} {d k : Int} {u tv : Value} {wh : Bool} {m : Int} (h : Box w p d k u tv wh m) :
    w.cell? ⟨p, 0, none⟩ = some (.int .u32 d) ∧ w.cell? ⟨p, 1, none⟩ = some (.int .i32 k) ∧ w.cell? ⟨p, 3, none⟩ = some u ∧ w.cell? ⟨p, 4, none⟩ = some tv ∧ w.cell? ⟨p, 5, none⟩ = some (.bool wh) ∧ w.cell? ⟨p, 6, none⟩ = some (.int .i64 m) := by
  unfold Box at h
  simp [World.cell?, h]
theorem Box.free {w : World} {p : Nat} {d k : Int} {u tv : Value} {wh : Bool} {m : Int} (h : Box w p d k u tv wh m) (j : Nat) : w.frozen? ⟨p, j, none⟩ = false := by
  unfold Box at h
  simp [World.frozen?, h]
theorem Box.lt {w : World} {p : Nat} {d k : Int} {u tv : Value} {wh : Bool} {m : Int} (h : Box w p d k u tv wh m) : p < w.heap.size := lt_of_block h
theorem Box.kept {S : List Nat} {w w' : World} {p : Nat} {d k : Int} {u tv : Value} {wh : Bool} {m : Int} (h : Box w p d k u tv wh m) (hk : Kept S w w') (hp : p ∉ S) : Box w' p d k u tv wh m := hk.keeps h hp
theorem Box.drew {w : World} {p : Nat} {d k : Int} {u tv : Value} {wh : Bool} {m : Int} (h : Box w p d k u tv wh m) : Box w.drew p d k u tv wh m := h

theorem Box.set0 {w : World} {p : Nat} {d k : Int} {u tv : Value} {wh : Bool} {m : Int} (h : Box w p d k u tv wh m) (d' : Int) : Box (w.setCell ⟨p, 0, none⟩ (.int .u32 d')) p d' k u tv wh m := by
  unfold Box at h ⊢
  have hlt := lt_of_block h
  have h' := h
  rw [Array.getElem?_eq_getElem hlt] at h'
  injection h' with h'
  show (w.heap.modify p _)[p]? = _
  rw [Array.getElem?_eq_getElem (by simpa using hlt), Array.getElem_modify_self, h']
  rfl
theorem Box.set1 {w : World} {p : Nat} {d k : Int} {u tv : Value} {wh : Bool} {m : Int} (h : Box w p d k u tv wh m) (k' : Int) : Box (w.setCell ⟨p, 1, none⟩ (.int .i32 k')) p d k' u tv wh m := by
  unfold Box at h ⊢
  have hlt := lt_of_block h
  have h' := h
  rw [Array.getElem?_eq_getElem hlt] at h'
  injection h' with h'
  show (w.heap.modify p _)[p]? = _
  rw [Array.getElem?_eq_getElem (by simpa using hlt), Array.getElem_modify_self, h']
  rfl
theorem Box.set3 {w : World} {p : Nat} {d k : Int} {u tv : Value} {wh : Bool} {m : Int} (h : Box w p d k u tv wh m) (u' : Value) : Box (w.setCell ⟨p, 3, none⟩ u') p d k u' tv wh m := by
  unfold Box at h ⊢
  have hlt := lt_of_block h
  have h' := h
  rw [Array.getElem?_eq_getElem hlt] at h'
  injection h' with h'
  show (w.heap.modify p _)[p]? = _
  rw [Array.getElem?_eq_getElem (by simpa using hlt), Array.getElem_modify_self, h']
  rfl
theorem Box.set4 {w : World} {p : Nat} {d k : Int} {u tv : Value} {wh : Bool} {m : Int} (h : Box w p d k u tv wh m) (tv' : Value) : Box (w.setCell ⟨p, 4, none⟩ tv') p d k u tv' wh m := by
  unfold Box at h ⊢
  have hlt := lt_of_block h
  have h' := h
  rw [Array.getElem?_eq_getElem hlt] at h'
  injection h' with h'
  show (w.heap.modify p _)[p]? = _
  rw [Array.getElem?_eq_getElem (by simpa using hlt), Array.getElem_modify_self, h']
  rfl
theorem Box.set5 {w : World} {p : Nat} {d k : Int} {u tv : Value} {wh : Bool} {m : Int} (h : Box w p d k u tv wh m) (wh' : Bool) : Box (w.setCell ⟨p, 5, none⟩ (.bool wh')) p d k u tv wh' m := by
  unfold Box at h ⊢
  have hlt := lt_of_block h
  have h' := h
  rw [Array.getElem?_eq_getElem hlt] at h'
  injection h' with h'
  show (w.heap.modify p _)[p]? = _
  rw [Array.getElem?_eq_getElem (by simpa using hlt), Array.getElem_modify_self, h']
  rfl
theorem Box.set6 {w : World} {p : Nat} {d k : Int} {u tv : Value} {wh : Bool} {m : Int} (h : Box w p d k u tv wh m) (m' : Int) : Box (w.setCell ⟨p, 6, none⟩ (.int .i64 m')) p d k u tv wh m' := by
  unfold Box at h ⊢
  have hlt := lt_of_block h
  have h' := h
  rw [Array.getElem?_eq_getElem hlt] at h'
  injection h' with h'
  show (w.heap.modify p _)[p]? = _
  rw [Array.getElem?_eq_getElem (by simpa using hlt), Array.getElem_modify_self, h']
  rfl

/-- A List that isn't read yet. -/
structure Unread (w : World) (p : Nat) (l : List UInt8) (u : Value) : Prop where
  box : Box w p 0 0 u (.slice none 0 0) false 0
  reads : Reads w u l
  apart : u.ownBlock ≠ some p

/-- A List that is read. -/
structure Done (w : World) (p : Nat) (l : List UInt8) (tv : Value) : Prop where
  box : Box w p 1 0 (.slice none 0 0) tv (parse l).isSome 1
  own : OwnsT w tv ((parse l).getD [])
  apart : tv.ownBlock ≠ some p

theorem Unread.kept {S : List Nat} {w w' : World} {p : Nat} {l : List UInt8} {u : Value} (h : Unread w p l u) (k : Kept S w w') (hp : p ∉ S) (hn : ∀ g, u.ownBlock = some g → g ∉ S) : Unread w' p l u := ⟨h.box.kept k hp, h.reads.kept k hn, h.apart⟩
theorem Done.kept {S : List Nat} {w w' : World} {p : Nat} {l : List UInt8} {tv : Value} (h : Done w p l tv) (k : Kept S w w') (hp : p ∉ S) (hn : ∀ g, tv.ownBlock = some g → g ∉ S) : Done w' p l tv := ⟨h.box.kept k hp, h.own.kept k hn, h.apart⟩

set_option maxHeartbeats 400000 in
/-- lazy.New: a List that isn't read yet, in new memory. -/
theorem new_any (v : Value) (l : List UInt8) (w : World) (h : Reads w v l) (hl : l.length ≤ 16777216) :
    Calls Try.prog 9 #[v] w fun e w' => ∃ p u, e = .returned (.pointer (some ⟨p, 0, none⟩)) ∧ Unread w' p l u ∧ Kept [] w w' ∧ w.heap.size ≤ p ∧ Fresh w u ∧ Inside w' u := by
  go_enter Try.func9, Try.ntmps9
  go_wp2_with (go_at_call 18; refine (clone_any v l _ h (by omega)).mono ?_; rintro e w1 ⟨v1, rfl, hown, hk, hf⟩; obtain ⟨a1, c1, hv1⟩ := hown.form; rw [hv1])
  go_ret
  subst hv1
  have hne : (Value.slice a1 l.length c1).ownBlock ≠ some w1.heap.size := fun h => by have := hown.lt h; omega
  exact ⟨w1.heap.size, _, rfl, ⟨heap_alloc_new w1 _, hown.reads.kept ((Kept.refl [] w1).alloc _) (by simp), hne⟩, hk.alloc _, hk.size, hf, fun g hg => by have := hown.lt hg; simp; omega⟩

set_option maxRecDepth 100000 in
set_option maxHeartbeats 1600000 in
/-- List.read, under the lock. -/
theorem read_any (p : Nat) (l : List UInt8) (u : Value) (w : World) (hB : Box w p 0 1 u (.slice none 0 0) false 0) (hR : Reads w u l) (hne : u.ownBlock ≠ some p) (hl : l.length ≤ 16777216) :
    Calls Try.prog 20 #[.pointer (some ⟨p, 0, none⟩)] w fun e w' => e = .returned (.tuple #[]) ∧ ∃ tv, Box w' p 0 1 (.slice none 0 0) tv (parse l).isSome 1 ∧ OwnsT w' tv ((parse l).getD []) ∧ tv.ownBlock ≠ some p ∧ Kept [p] w w' ∧ Fresh w tv := by
  have hlt := hB.lt
  obtain ⟨-, -, -, -, -, c6⟩ := hB.cells
  have hadd := run_call_add (P := Try.prog) Try.func55 (by kernel_rfl) (by kernel_rfl) (by kernel_rfl) .i64 (by kernel_rfl) (y := 1) (s := 1) c6 (hB.free 6) (by simp [go_sem]; rfl)
  have hB1 : Box (w.setCell ⟨p, 6, none⟩ (.int .i64 1)) p 0 1 u (.slice none 0 0) false 1 := hB.set6 1
  have k1 : Kept [p] w (w.setCell ⟨p, 6, none⟩ (.int .i64 1)) := (Kept.refl [p] w).setCell (.inl (by simp)) _
  have hR1 : Reads (w.setCell ⟨p, 6, none⟩ (.int .i64 1)) u l := hR.kept k1 (fun g hg hm => by simp at hm; subst hm; exact hne hg)
  have htx := textsOf_any u l _ hR1 hl
  obtain ⟨c0', c1', c3', c4', c5', c6'⟩ := hB1.cells
  clear hR hR1
  generalize w.setCell ⟨p, 6, none⟩ (.int .i64 1) = w1 at hadd hB1 k1 htx c0' c1' c3' c4' c5' c6'
  have k1s := k1.size
  go_enter Try.func20, Try.ntmps20
  go_wp2_with (first | (go_at_call 33; refine htx.mono ?_; rintro e w2 ⟨tv0, rfl, hown, hk, hf, hlen⟩; obtain ⟨a1, t1, rfl⟩ := hown.form; obtain ⟨d0, d1, d3, d4, d5, d6⟩ := (hB1.kept hk (by simp)).cells; have z3 := (hB1.kept hk (by simp)).free 3; have z4 := (hB1.kept hk (by simp)).free 4; have z5 := (hB1.kept hk (by simp)).free 5) | (go_at_call 32; go_in))
  go_end0
  have hte : ∃ tv, tv = Value.slice a1 ((parse l).getD []).length t1 := ⟨_, rfl⟩
  obtain ⟨tv, hte⟩ := hte
  rw [← hte] at hown hf ⊢
  have hB2 := hB1.kept hk (by simp)
  have hB3 := ((hB2.set4 tv).set5 (parse l).isSome).set3 (.slice none 0 0)
  have hne2 : tv.ownBlock ≠ some p := fun h => by have := hf p h; omega
  have k2 : Kept [p] w (((w2.setCell ⟨p, 4, none⟩ tv).setCell ⟨p, 5, none⟩ (.bool (parse l).isSome)).setCell ⟨p, 3, none⟩ (.slice none 0 0)) :=
    (((k1.trans hk (by simp)).setCell (.inl (by simp)) _).setCell (.inl (by simp)) _).setCell (.inl (by simp)) _
  have k3 : Kept [p] w2 (((w2.setCell ⟨p, 4, none⟩ tv).setCell ⟨p, 5, none⟩ (.bool (parse l).isSome)).setCell ⟨p, 3, none⟩ (.slice none 0 0)) :=
    (((Kept.refl [p] w2).setCell (.inl (by simp)) _).setCell (.inl (by simp)) _).setCell (.inl (by simp)) _
  exact ⟨rfl, tv, hB3, hown.kept k3 (fun g hg hm => by simp at hm; subst hm; exact hne2 hg), hne2, k2, fun g hg => by have := hf g hg; omega⟩

/-- Once.Do of a List that isn't read yet: it is read. -/
theorem once_first (p : Nat) (l : List UInt8) (u : Value) (w : World) (hU : Unread w p l u) (hl : l.length ≤ 16777216) :
    Calls Try.prog 19 #[.pointer (some ⟨p, 0, none⟩), .func (.func 20) #[.pointer (some ⟨p, 0, none⟩)] #[]] w fun e w' => e = .returned (.tuple #[]) ∧ ∃ tv, Done w' p l tv ∧ Kept [p] w w' ∧ Fresh w tv := by
  obtain ⟨c0, c1, -, -, -, -⟩ := hU.box.cells
  have hB1 : Box (w.setCell ⟨p, 1, none⟩ (.int .i32 1)) p 0 1 u (.slice none 0 0) false 0 := hU.box.set1 1
  have k1 : Kept [p] w (w.setCell ⟨p, 1, none⟩ (.int .i32 1)) := (Kept.refl [p] w).setCell (.inl (by simp)) _
  have hR1 := hU.reads.kept k1 (fun g hg hm => by simp at hm; subst hm; exact hU.apart hg)
  refine (do_first p _ w c0 c1 (hU.box.free 1) (read_any p l u _ hB1 hR1 hU.apart hl) ?_).mono ?_
  · rintro w' ⟨tv, hB, -⟩
    obtain ⟨e0, e1, -⟩ := hB.cells
    exact ⟨e0, e1, hB.free 0, hB.free 1⟩
  · rintro e w' ⟨rfl, w1, ⟨tv, hB, hown, hne, hk, hf⟩, rfl⟩
    have k2 : Kept [p] w1 ((w1.drew.setCell ⟨p, 0, none⟩ (.int .u32 1)).setCell ⟨p, 1, none⟩ (.int .i32 0)) := (((Kept.refl [p] w1).drew).setCell (.inl (by simp)) _).setCell (.inl (by simp)) _
    have ks := k1.size
    exact ⟨rfl, tv, ⟨(hB.drew.set0 1).set1 0, hown.kept k2 (fun g hg hm => by simp at hm; subst hm; exact hne hg), hne⟩, (k1.trans hk (by simp)).trans k2 (by simp), fun g hg => by have := hf g hg; omega⟩

/-- Once.Do of a List that is read: nothing. -/
theorem once_again (p : Nat) (l : List UInt8) (tv fv : Value) (w : World) (hD : Done w p l tv) :
    Calls Try.prog 19 #[.pointer (some ⟨p, 0, none⟩), fv] w fun e w' => e = .returned (.tuple #[]) ∧ w = w' := do_done ⟨p, 0, none⟩ fv w hD.box.cells.1

end Go.Proofs.Ythbopephcdohkaa
