/-
  Open of names that are none, or come twice: refused.
-/
import Derived.Test.YtilelklcfgemoaaAgainWalk
namespace Go.Proofs.Ytilelklcfgemoaa
open Go.RowKit
set_option linter.unusedVariables false

/-- The free blocks were never written. -/
def Bare (s : St) (fl : List Nat) : Prop := ∀ x ∈ s.ws, x.1 ∉ fl
theorem Bare.bad {s : St} {fl : List Nat} (h : Bare s fl) {b : Nat} (hb : b ∈ fl) (fr ct : Nat) : Bad s fr ct (ets []) b := by
  refine .inr (.inr ?_)
  rw [blk_none s.ws b (fun j x hj hx e => h x (List.mem_of_getElem? hx) (e ▸ hb))]
  exact not_part_zs _
theorem Bare.put {s : St} {fl : List Nat} (h : Bare s fl) (k : Nat) (vs : List Wr) (hn : fl.Nodup) (hv : ∀ x ∈ vs, x.1 ∈ fl.take k) (fu : Int) : Bare { s with ws := s.ws ++ vs, fuse := fu } (fl.drop k) := fun x hx hm => by
  rcases List.mem_append.1 hx with hx | hx
  · exact h x hx (List.mem_of_mem_drop hm)
  · rw [← List.take_append_drop k fl] at hn
    exact (List.nodup_append.1 hn).2.2 _ (hv x hx) _ hm rfl
/-- A block of a text that is not its first is no name. -/
theorem second_bad {s : St} {fr ct : Nat} {L : List Ent} {fl : List Nat} (h : Okp s fr ct L fl) {x : Ent} (hx : x ∈ L) (b : Nat) (hb : x.2.1[1]? = some b) : Bad s fr ct (ets []) b := by
  refine .inr (.inr ?_)
  have hl := h.lies x hx
  obtain ⟨t, ht⟩ := hl.blocks
  have h1 : 1 < x.2.1.length := (List.getElem?_eq_some_iff.1 hb).1
  have hg : x.2.1.getD 1 0 = b := by rw [List.getD_eq_getElem?_getD, hb]; rfl
  have he := ht 1 h1
  rw [hg] at he
  rw [he]
  have hmem : b ∈ x.2.1 := List.mem_of_getElem? hb
  have hn : x.1 < 65536 := hl.small _ (h.self hx)
  have hbs := hl.small b hmem
  have hne : b ≠ x.1 := fun e => by
    have hd := h.each hx
    have hf := hl.first
    rw [List.head?_eq_getElem?] at hf
    have := (List.getElem?_inj (by omega) hd).1 (hb.trans (by rw [e, hf]))
    omega
  unfold pblk
  rw [hg]
  exact not_part_other _ _ _ _ _ _ _ (by rw [chk_len]; omega) hn hbs hbs hne
/-- Open refuses. -/
theorem sy_refuse {w0 w : World} {q p : Nat} {s : St} {fr ct : Nat} {L : List Ent} {fl X : List Nat} (h : Sy w0 w q p s fr ct L fl X) (hd : s.down = false) (M : List Ent) (hM : M.Sublist L) (hl : M.length ≤ 900) (nm : Nat) (hb : Bad s fr ct (ets M) nm) (hnm : nm < 65536) (a : Option Addr) (n c : Nat) (hn : n = M.length + 1) (hr : ReadsI w (.slice a n c) (M.map (·.1) ++ [nm])) :
    Calls Try.prog 11 #[.pointer (some ⟨q, 0, none⟩), .int .i64 (fr : Int), .int .i64 (ct : Int), .slice a n c] w fun e w' => e = .returned (.tuple #[.pointer none, .int .i64 2]) ∧ Kept [] w w' := by
  obtain ⟨F, G, T, hD, hP, hT, hFG, hO, hK, hH⟩ := h
  have hnb := hO.nb
  have har := hO.area
  have hlen : (M.map (·.1) ++ [nm]).length = n := by simp [hn]
  have hel : (ets M).length = M.length := by simp [ets]
  have hc := openP_any hD hd hO.one hO.area (M.map (·.1) ++ [nm]) (by rw [hlen]; omega) (fun x hx => by
      rcases List.mem_append.1 hx with hx | hx
      · obtain ⟨y, hy, rfl⟩ := List.mem_map.1 hx
        have := hO.mem (List.mem_append.2 (.inl (mem_bls.2 ⟨y, hM.subset hy, hO.self (hM.subset hy)⟩)))
        omega
      · simp at hx; omega) a c (by rw [hlen]; exact hr) (ets M)
    ⟨fun x hx => by obtain ⟨y, hy, rfl⟩ := List.mem_map.1 hx; exact ⟨_, hO.lies y (hM.subset hy)⟩, fun x hx b hb => by obtain ⟨y, hy, rfl⟩ := List.mem_map.1 hx; exact hO.mem (List.mem_append.2 (.inl (mem_bls.2 ⟨y, hM.subset hy, hb⟩))), by rw [ets_names]; exact hO.names.sublist (hM.map _)⟩ false (fun k hk => by
      rw [hel] at hk
      rw [← List.getElem?_map, ets_names, List.getElem?_append_left (by simpa using hk)]) (.inr ⟨rfl, nm, by rw [hel, List.getElem?_append_right (by simp)]; simp, hb⟩)
  rw [hlen] at hc
  refine hc.mono ?_
  rintro e w' ⟨k', ⟨h, _⟩ | ⟨_, rfl⟩⟩
  · cases h
  · exact ⟨rfl, k'⟩
/-- The caller's own memory is turned, and lies elsewhere now. -/
theorem Sy.turn2 {w0 w w' : World} {q p : Nat} {s : St} {fr ct : Nat} {L : List Ent} {fl X S Y : List Nat} (h : Sy w0 w q p s fr ct L fl X) (k : Kept S w w') (hS : ∀ x ∈ S, x ∈ X) (h0 : ∀ x ∈ S, w0.heap.size ≤ x) (hY : ∀ y ∈ Y, y ∈ X ∨ w.heap.size ≤ y) : Sy w0 w' q p s fr ct L fl Y := by
  obtain ⟨F, G, T, hD, hP, hT, hFG, hO, hK, hH⟩ := h
  refine ⟨F, G, T, hD.kept k (fun x hx hm => (hH x (.inl hx)).2 (hS x hm)), hP.kept k (fun x hx hm => (hH x (.inr hx)).2 (hS x hm)), hT, hFG, hO, hK.trans k (fun x hx => .inr (h0 x hx)), fun x hx => ⟨(hH x hx).1, fun hm => ?_⟩⟩
  rcases hY x hm with h | h
  · exact (hH x hx).2 h
  · rcases hx with hx | hx
    · have := hD.lt x hx; omega
    · have := hP.lt x hx; omega
/-- One int in a new row. -/
theorem readsI_one (w : World) (m : Nat) : ReadsI (w.alloc (.cells #[.int .i64 (m : Int)] 3)) (.slice (some ⟨w.heap.size, 0, none⟩) 1 1) [m] := by
  refine ⟨_, 1, rfl, by simp, by unfold maxLen; omega, by simp, fun _ => ⟨w.heap.size, 0, rfl, fun j u hu => ?_⟩⟩
  cases j with
  | zero => simp at hu; subst hu; exact cell_of_one (heap_alloc_new w _)
  | succ j => simp at hu
theorem ownsI_single (w : World) (m : Nat) : OwnsI (w.alloc (.cells #[.int .i64 (m : Int)] 3)) (.slice (some ⟨w.heap.size, 0, none⟩) 1 1) [m] :=
  ⟨rfl, .inr ⟨w.heap.size, 1, #[.int .i64 (m : Int)], rfl, Nat.zero_le _, heap_alloc_new w _, Nat.le_refl _, by unfold maxLen; omega, rfl, rfl⟩⟩
theorem ownsI_empty (w : World) : OwnsI (w.alloc (.cells #[] 3)) (.slice (some ⟨w.heap.size, 0, none⟩) 0 0) [] :=
  ⟨rfl, .inr ⟨w.heap.size, 0, #[], rfl, Nat.zero_le _, heap_alloc_new w _, Nat.le_refl _, by unfold maxLen; omega, rfl, rfl⟩⟩
/-- 'append(v, x...)' of ints. -/
theorem app_ints {w : World} {v x : Value} {l m : List Nat} (ho : OwnsI w v l) (hr : ReadsI w x m) (hb : l.length + m.length ≤ 1000000) :
    ∃ ad c w', (Builtin.append_ #[36, 36] 36 #[v, x]).run Try.prog w = .ok (.slice ad (l.length + m.length) c) w' ∧ OwnsI w' (.slice ad (l.length + m.length) c) (l ++ m) ∧ Kept v.ownBlock.toList w w' ∧ New w v (.slice ad (l.length + m.length) c) := by
  obtain ⟨i0, hi, hz0, hz1, hz2⟩ := info_parts inf3
  have key : ∀ v' w', (Builtin.append_ #[36, 36] 36 #[v, x]).run Try.prog w = .ok v' w' → OwnsI w' v' (l ++ m) → w.grownBy w' v.ownBlock → New w v v' → ∃ ad c w', (Builtin.append_ #[36, 36] 36 #[v, x]).run Try.prog w = .ok (.slice ad (l.length + m.length) c) w' ∧ OwnsI w' (.slice ad (l.length + m.length) c) (l ++ m) ∧ Kept v.ownBlock.toList w w' ∧ New w v (.slice ad (l.length + m.length) c) := by
    intro v' w' h1 h2 h3 h4
    obtain ⟨ad, cap, rfl, -⟩ := h2.form
    rw [List.length_append] at h1 h2 h4
    exact ⟨ad, cap, w', h1, h2, (Kept.refl _ w).grown h3 (fun x hx => .inl (by rw [Option.mem_toList]; exact hx)), h4⟩
  obtain ⟨a, cap, rfl, h2, h3, h4, h5⟩ := hr
  cases a with
  | none =>
    have hc := h4 rfl
    subst hc
    have h0 : m = [] := List.eq_nil_of_length_eq_zero (by omega)
    subst h0
    have hrun := run_append_owned_none (P := Try.prog) (w := w) 0 36 36 3 i0 1 Try.underlying36 hi v l.length (C64 l) ho
    exact key v w hrun (by rw [List.append_nil]; exact ho) ⟨rfl, rfl, rfl, Nat.le_refl _, fun _ _ _ => rfl⟩ (New.refl w v)
  | some a =>
    have hcell : ∀ j u, (C64 m)[j]? = some u → w.cell? (a.add j) = some u := by
      intro j u hu
      obtain ⟨n, hn, rfl⟩ := C64_inv hu
      obtain ⟨b, o, hab, hc⟩ := h5 (fun h => by subst h; simp at hn)
      simp at hab
      subst hab
      rw [add_at]
      exact hc j n hn
    obtain ⟨v', w', hrun, e1, e2, e3, e4⟩ := run_append_own_at (P := Try.prog) w 0 36 36 3 i0 _ 1 8 Try.underlying36 hi hz0 hz1 hz2 rfl (by omega) v l.length (C64 l) ho a m.length cap (C64 m) (by rw [C64_length, Nat.mul_one]) hcell (C64_one m) (by unfold maxLen; omega) (by omega) (Nat.zero_le _)
    refine key v' w' hrun ?_ e2 ?_
    · unfold OwnsI; rw [C64_append, List.length_append]; exact e1
    · intro g hg
      rcases e4 with h | h
      · exact .inl (by rw [← h]; exact hg)
      · exact .inr (Nat.le_of_eq (Option.some.inj (h.symm.trans hg)))
/-- An index, cut to the length. -/
theorem idx_of (k : Int) (f : Nat) (hf : 0 < f) (hf2 : f ≤ 1000000) : ∃ i : Nat, i < f ∧ wrap64 ((IntKind.u64.wrap k).tmod (f : Int)) = (i : Int) := by
  have h0 : 0 ≤ IntKind.u64.wrap k := by rw [IntKind.wrap_u64]; omega
  have h1 : 0 ≤ IntKind.u64.wrap k % (f : Int) := Int.emod_nonneg _ (by omega)
  have h2 : IntKind.u64.wrap k % (f : Int) < (f : Int) := Int.emod_lt_of_pos _ (by omega)
  rw [Int.tmod_eq_emod_of_nonneg h0]
  obtain ⟨i, hi⟩ := Int.eq_ofNat_of_zero_le h1
  rw [hi] at h2 ⊢
  refine ⟨i, by omega, ?_⟩
  unfold wrap64
  omega
/-- 'v[1:2]' of ints. -/
theorem slice_second (a : Option Addr) (n c y : Nat) (l : List Nat) (w : World) (hn : n = l.length) (h : ReadsI w (.slice a n c) l) (hy : l[1]? = some y) :
    ∃ a' c', (∀ W, (Instr.slice 36 (.slice a n c) (some (.int .i64 1)) (some (.int .i64 2)) none).run Try.prog W = .ok (.slice a' 1 c') W) ∧ ∀ W, ReadsI W (.slice a n c) l → ReadsI W (.slice a' 1 c') [y] := by
  subst hn
  obtain ⟨i0, hi, hz0, hz1, hz2⟩ := info_parts inf3
  have ht' : Try.prog.underlying 36 = some (.slice (Try.prog.elem 36)) := by simp [Program.elem, Try.underlying36]
  have he : Try.prog.elem 36 = 3 := by simp [Program.elem, Try.underlying36]
  have hz : ∀ w, (Go.sizeOf 3).run Try.prog w = .ok 1 w := fun w => by simp [Go.sizeOf, typeInfo, hi, hz1]
  obtain ⟨a0, cap0, hv, h2, h3, h4, h5⟩ := h
  injection hv with e1 e2 e3
  subst e1 e3
  have hl1 : 1 < l.length := (List.getElem?_eq_some_iff.1 hy).1
  obtain ⟨b, o, rfl, hc⟩ := h5 (by intro e; subst e; simp at hy)
  refine ⟨some ⟨b, o + 1, none⟩, c - 1, fun W => ?_, fun W hW => ?_⟩
  · rw [run_slice_lh W 36 _ _ _ ht' .i64 .i64 _ _ (by omega) (by omega) (by omega), he, hz]
    have q2 : ¬ c = 1 := by omega
    have q3 : (⟨b, o, none⟩ : Addr).add 1 = ⟨b, o + 1, none⟩ := by unfold Addr.add; split <;> simp_all
    simp [Result.andThen, sliced, q2, q3]
  · obtain ⟨a1, cap1, hv, g2, g3, g4, g5⟩ := hW
    injection hv with e1 e2 e3
    subst e1 e3
    obtain ⟨b1, o1, hab, hc1⟩ := g5 (by intro e; subst e; simp at hy)
    injection hab with hab
    injection hab with hb ho _
    subst hb ho
    refine ⟨_, c - 1, rfl, by simp; omega, by omega, by simp, fun _ => ⟨b, o + 1, rfl, fun j u hu => ?_⟩⟩
    cases j with
    | zero => simp at hu; subst hu; exact hc1 1 y hy
    | succ j => simp at hu
end Go.Proofs.Ytilelklcfgemoaa
