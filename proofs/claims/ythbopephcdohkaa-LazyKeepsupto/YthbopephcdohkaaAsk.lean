/-
  slices.Clone of texts; Texts, At, Made of a List.
-/
import Derived.Test.YthbopephcdohkaaList
import Derived.Test.YthbopephcdohkaaOneWalk
import Derived.Deep.RegionWith
namespace Go.Proofs.Ythbopephcdohkaa
open Go.RowKit
set_option linter.unusedVariables false

set_option maxHeartbeats 400000 in
theorem cloneT_nil (c : Nat) (w : World) : Calls Try.prog 21 #[.slice none 0 c] w fun e w' => e = .returned (.slice none 0 0) ∧ w = w' := by
  have hq := fun w : World => Lib.run_eql_slice_nil (P := Try.prog) w 26 9 none 0 c 0 0 Try.underlying26
  go_enter Try.func21, Try.ntmps21
  go_wp2
  go_ret
  exact ⟨rfl, rfl⟩

set_option maxHeartbeats 400000 in
theorem cloneT_some (a : Addr) (c : Nat) (l : List (List UInt8)) (w : World) (hl : l.length ≤ 16777216) (hc : ∀ j u, l[j]? = some u → w.cell? (a.add j) = some (T8 u)) :
    Calls Try.prog 21 #[.slice (some a) l.length c] w fun e w' => ∃ v', e = .returned v' ∧ OwnsT w' v' l ∧ Kept [] w w' ∧ Fresh w v' := by
  obtain ⟨i0, hi, hz0, hz1, hz2⟩ := info_parts inf9
  have hq := fun w : World => Lib.run_eql_slice_nil (P := Try.prog) w 26 9 (some a) l.length c 0 0 Try.underlying26
  have hcell : Hid (∀ j u, (CT l)[j]? = some u → (w.alloc (.cells #[] 9)).cell? (a.add j) = some u) := by
    intro j u hu
    simp only [CT, List.getElem?_map, Option.map_eq_some_iff] at hu
    obtain ⟨b, hb, rfl⟩ := hu
    have h1 := hc j b hb
    rw [World.cell?_of_block (w := w) (Below.heap_alloc _ _ _ (World.block_lt_of_cell? w _ h1))]
    exact h1
  have hmade := World.ownsRow_made (base := 0) (e := 9) (size := 1) w #[] 0 (Nat.zero_le _) (by simp) (by simp)
  clear hc
  go_enter Try.func21, Try.ntmps21
  go_wp2_with (at_builtin; refine wpList_append_own_at _ rfl _ _ _ rfl 0 9 i0 _ 1 16 Try.underlying26 hi hz0 hz1 hz2 rfl (by omega) _ 0 [] rfl hmade a l.length c (CT l) rfl (by rw [CT_length, Nat.mul_one]) hcell.out (CT_one l) (by unfold maxLen; omega) (by omega) (by omega) ?_; intro v1 w1 hown hgrow hnil hat)
  go_ret
  refine ⟨v1, rfl, ?_, ((Kept.refl [] w).alloc _).grown hgrow ?_, ?_⟩
  · rw [Nat.zero_add] at hown; exact hown
  · intro k hk
    have hk' : some w.heap.size = some k := hk
    injection hk' with hk'
    exact .inr (by omega)
  · intro g hg
    rcases hat with h | h
    · have h' : some g = some w.heap.size := hg.symm.trans h
      injection h' with h'
      omega
    · rw [hg] at h; simp at h; omega

/-- slices.Clone: the same texts, in new memory. -/
theorem cloneT_any (v : Value) (l : List (List UInt8)) (w : World) (h : ReadsT w v l) (hl : l.length ≤ 16777216) :
    Calls Try.prog 21 #[v] w fun e w' => ∃ v', e = .returned v' ∧ OwnsT w' v' l ∧ Kept [] w w' ∧ Fresh w v' := by
  obtain ⟨a, cap, rfl, h2, h3, h4, h5⟩ := h
  match a with
  | none =>
    have hc := h4 rfl
    subst hc
    have h0 : l = [] := List.eq_nil_of_length_eq_zero (by omega)
    subst h0
    exact (cloneT_nil 0 w).mono fun e w' ⟨he, hw⟩ => ⟨_, he, hw ▸ OwnsT.nil w, hw ▸ Kept.refl [] w, fun g hg => by simp [Value.ownBlock] at hg⟩
  | some a =>
    refine cloneT_some a cap l w hl fun j u hu => ?_
    have hne : l ≠ [] := fun h => by subst h; simp at hu
    obtain ⟨b, o, hab, hc⟩ := h5 hne
    simp at hab
    subst hab
    have hadd : (⟨b, o, Option.none⟩ : Addr).add j = ⟨b, o + j, Option.none⟩ := by unfold Addr.add; split <;> simp_all
    rw [hadd]
    exact hc j u hu

set_option maxRecDepth 100000 in
set_option maxHeartbeats 1000000 in
/-- Texts, whatever Once.Do does. -/
theorem texts_gen (p : Nat) (l : List UInt8) (R : World → Prop) (w : World) (hl : ((parse l).getD []).length ≤ 16777216)
    (hdo : Calls Try.prog 19 #[.pointer (some ⟨p, 0, none⟩), .func (.func 20) #[.pointer (some ⟨p, 0, none⟩)] #[]] w fun e w' => e = .returned (.tuple #[]) ∧ R w') (hR : ∀ w1, R w1 → ∃ tv, Done w1 p l tv) :
    Calls Try.prog 10 #[.pointer (some ⟨p, 0, none⟩)] w fun e w' => ∃ w1 xv, R w1 ∧ e = .returned (.tuple #[xv, .bool (parse l).isSome]) ∧ OwnsT w' xv ((parse l).getD []) ∧ Kept [] w1 w' ∧ Fresh w1 xv := by
  go_enter Try.func10, Try.ntmps10
  go_wp2_with (go_at_call 19; refine hdo.mono ?_; rintro e w1 ⟨rfl, hr⟩; obtain ⟨tv, hD⟩ := hR w1 hr; have hcl := cloneT_any tv _ w1.drew hD.own.reads hl; have hB := hD.box; obtain ⟨c0, c1, c3, c4, c5, c6⟩ := hD.box.cells; obtain ⟨a, cap, rfl⟩ := hD.own.form)
  go_region_with (first | (go_at_call 21; refine hcl.mono ?_; rintro e w3 ⟨xv, rfl, hox, hkx, hfx⟩; have d5 := (hB.drew.kept hkx (by simp)).cells.2.2.2.2.1))
  all_goals
    go_wp2_with fail
    go_ret2
    exact ⟨w1, _, hr, rfl, hox, (Kept.refl [] w1).drew.trans hkx (by simp), hfx⟩

/-- Texts of a List that is read. -/
theorem texts_again (p : Nat) (l : List UInt8) (tv : Value) (w : World) (hD : Done w p l tv) (hl : ((parse l).getD []).length ≤ 16777216) :
    Calls Try.prog 10 #[.pointer (some ⟨p, 0, none⟩)] w fun e w' => ∃ xv, e = .returned (.tuple #[xv, .bool (parse l).isSome]) ∧ OwnsT w' xv ((parse l).getD []) ∧ Kept [] w w' ∧ Fresh w xv :=
  (texts_gen p l (fun w' => w = w') w hl (once_again p l tv _ w hD) (fun w1 h => ⟨tv, h ▸ hD⟩)).mono fun e w' ⟨w1, xv, h, h1, h2, h3, h4⟩ => by subst h; exact ⟨xv, h1, h2, h3, h4⟩

/-- Texts of a List that isn't read yet. -/
theorem texts_first (p : Nat) (l : List UInt8) (u : Value) (w : World) (hU : Unread w p l u) (hl0 : l.length ≤ 16777216) (hl : ((parse l).getD []).length ≤ 16777216) :
    Calls Try.prog 10 #[.pointer (some ⟨p, 0, none⟩)] w fun e w' => ∃ tv xv, e = .returned (.tuple #[xv, .bool (parse l).isSome]) ∧ OwnsT w' xv ((parse l).getD []) ∧ Done w' p l tv ∧ Kept [p] w w' ∧ Fresh w xv ∧ Fresh w tv ∧ (∀ g, xv.ownBlock = some g → tv.ownBlock ≠ some g) ∧ xv.ownBlock ≠ some p :=
  (texts_gen p l _ w hl (once_first p l u w hU hl0) (fun w1 ⟨tv, h, _⟩ => ⟨tv, h⟩)).mono fun e w' ⟨w1, xv, ⟨tv, hD, hk, hf⟩, h1, h2, h3, h4⟩ =>
    ⟨tv, xv, h1, h2, hD.kept h3 (by simp) (by simp), hk.trans h3 (by simp), fun g hg => by have := h4 g hg; have := hk.size; omega, hf, fun g hg ht => by have := h4 g hg; have := hD.own.lt ht; omega, fun hp => by have := h4 p hp; have := hD.box.lt; omega⟩

set_option maxHeartbeats 400000 in
theorem texts_nil (w : World) : Calls Try.prog 10 #[.pointer none] w fun e w' => e = .returned (.tuple #[.slice none 0 0, .bool false]) ∧ w = w' := by
  go_enter Try.func10, Try.ntmps10
  go_wp2
  go_ret2
  exact ⟨rfl, rfl⟩

/-- The text number i, if there is one. -/
def atT (ts : List (List UInt8)) (i : Int) : List UInt8 × Bool := match bif decide (i < 0) then none else ts[i.toNat]? with
  | some t => (t, true)
  | none => ([], false)

theorem atT_neg (ts : List (List UInt8)) (i : Int) (h : i < 0) : atT ts i = ([], false) := by simp [atT, h]
theorem atT_past (ts : List (List UInt8)) (k : Nat) (h : ts.length ≤ k) : atT ts (k : Int) = ([], false) := by
  have : ts[k]? = none := List.getElem?_eq_none_iff.2 h
  unfold atT
  rw [show (decide ((k : Int) < 0)) = false by simp, cond_false, Int.toNat_natCast, this]
theorem atT_at (ts : List (List UInt8)) (k : Nat) (t : List UInt8) (h : ts[k]? = some t) : atT ts (k : Int) = (t, true) := by
  unfold atT
  rw [show (decide ((k : Int) < 0)) = false by simp, cond_false, Int.toNat_natCast, h]

/-- A row of texts, at a place that it has. -/
theorem ReadsT.at {w : World} {v : Value} {ts : List (List UInt8)} (h : ReadsT w v ts) {k : Nat} {t : List UInt8} (hk : ts[k]? = some t) : ∃ b o cap, v = .slice (some ⟨b, o, none⟩) ts.length cap ∧ cap ≤ 9223372036854775807 ∧ ts.length ≤ cap ∧ w.cell? ⟨b, o + k, none⟩ = some (T8 t) := by
  obtain ⟨a, cap, rfl, h2, h3, h4, h5⟩ := h
  obtain ⟨b, o, rfl, hc⟩ := h5 (fun h => by subst h; simp at hk)
  exact ⟨b, o, cap, rfl, h3, h2, hc k t hk⟩

set_option maxRecDepth 100000 in
set_option maxHeartbeats 1000000 in
/-- At, whatever Once.Do does. -/
theorem at_gen (p : Nat) (l : List UInt8) (i : Int) (R : World → Prop) (w : World) (hl : ((parse l).getD []).length ≤ 16777216) (hi : -9223372036854775808 ≤ i) (hi2 : i ≤ 9223372036854775807)
    (hdo : Calls Try.prog 19 #[.pointer (some ⟨p, 0, none⟩), .func (.func 20) #[.pointer (some ⟨p, 0, none⟩)] #[]] w fun e w' => e = .returned (.tuple #[]) ∧ R w') (hR : ∀ w1, R w1 → ∃ tv, Done w1 p l tv) :
    Calls Try.prog 12 #[.pointer (some ⟨p, 0, none⟩), .int .i64 i] w fun e w' => e = .returned (.tuple #[T8 (atT ((parse l).getD []) i).1, .bool (atT ((parse l).getD []) i).2]) ∧ R w' := by
  generalize hts : (parse l).getD [] = ts at hl ⊢
  by_cases hneg : i < 0
  · rw [atT_neg ts i hneg]
    clear hts
    go_enter Try.func12, Try.ntmps12
    go_wp2_with (go_at_call 19; refine hdo.mono ?_; rintro e w1 ⟨rfl, hr⟩; obtain ⟨tv, hD⟩ := hR w1 hr; obtain ⟨c0, c1, c3, c4, c5, c6⟩ := hD.box.cells; obtain ⟨a, cap, rfl⟩ := hD.own.form)
    go_ret2
    exact ⟨rfl, hr⟩
  · obtain ⟨k, rfl⟩ := Int.eq_ofNat_of_zero_le (show 0 ≤ i by omega)
    cases hk : ts[k]? with
    | none =>
      have hlen : ts.length ≤ k := List.getElem?_eq_none_iff.1 hk
      rw [atT_past ts k hlen]
      have HT : Hid ((parse l).getD [] = ts) := hts
      clear hts hk
      have hge : (ts.length : Int) ≤ (k : Int) := by omega
      go_enter Try.func12, Try.ntmps12
      go_wp2_with (go_at_call 19; refine hdo.mono ?_; rintro e w1 ⟨rfl, hr⟩; obtain ⟨tv, hD⟩ := hR w1 hr; obtain ⟨c0, c1, c3, c4, c5, c6⟩ := hD.box.cells; obtain ⟨a, cap, rfl⟩ := hD.own.form; rw [HT.out] at c4)
      go_ret2
      exact ⟨rfl, hr⟩
    | some t =>
      have hlt : k < ts.length := (List.getElem?_eq_some_iff.1 hk).1
      rw [atT_at ts k t hk]
      have HT : Hid ((parse l).getD [] = ts) := hts
      have HK : Hid (ts[k]? = some t) := hk
      clear hts hk
      have hge : ¬ (ts.length : Int) ≤ (k : Int) := by omega
      go_enter Try.func12, Try.ntmps12
      go_wp2_with (go_at_call 19; refine hdo.mono ?_; rintro e w1 ⟨rfl, hr⟩; obtain ⟨tv, hD⟩ := hR w1 hr; obtain ⟨c0, c1, c3, c4, c5, c6⟩ := hD.box.cells; have hrd := hD.own.reads; rw [HT.out] at hrd; obtain ⟨b, o, cap, rfl, hcap, hlc, hcell⟩ := hrd.at HK.out)
      go_ret2
      exact ⟨rfl, hr⟩

theorem at_again (p : Nat) (l : List UInt8) (i : Int) (tv : Value) (w : World) (hD : Done w p l tv) (hl : ((parse l).getD []).length ≤ 16777216) (hi : -9223372036854775808 ≤ i) (hi2 : i ≤ 9223372036854775807) :
    Calls Try.prog 12 #[.pointer (some ⟨p, 0, none⟩), .int .i64 i] w fun e w' => e = .returned (.tuple #[T8 (atT ((parse l).getD []) i).1, .bool (atT ((parse l).getD []) i).2]) ∧ w = w' :=
  at_gen p l i (fun w' => w = w') w hl hi hi2 (once_again p l tv _ w hD) (fun w1 h => ⟨tv, h ▸ hD⟩)

theorem at_first (p : Nat) (l : List UInt8) (i : Int) (u : Value) (w : World) (hU : Unread w p l u) (hl0 : l.length ≤ 16777216) (hl : ((parse l).getD []).length ≤ 16777216) (hi : -9223372036854775808 ≤ i) (hi2 : i ≤ 9223372036854775807) :
    Calls Try.prog 12 #[.pointer (some ⟨p, 0, none⟩), .int .i64 i] w fun e w' => e = .returned (.tuple #[T8 (atT ((parse l).getD []) i).1, .bool (atT ((parse l).getD []) i).2]) ∧ ∃ tv, Done w' p l tv ∧ Kept [p] w w' ∧ Fresh w tv :=
  at_gen p l i _ w hl hi hi2 (once_first p l u w hU hl0) (fun w1 ⟨tv, h, _⟩ => ⟨tv, h⟩)

set_option maxHeartbeats 400000 in
theorem at_nil (i : Int) (w : World) : Calls Try.prog 12 #[.pointer none, .int .i64 i] w fun e w' => e = .returned (.tuple #[.string ⟨#[]⟩, .bool false]) ∧ w = w' := by
  go_enter Try.func12, Try.ntmps12
  go_wp2
  go_ret2
  exact ⟨rfl, rfl⟩

end Go.Proofs.Ythbopephcdohkaa
