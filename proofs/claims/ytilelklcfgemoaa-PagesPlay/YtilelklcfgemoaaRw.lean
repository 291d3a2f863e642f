/-
  Rows of ints: a slice that reads as ints, one that owns its row, one that lies somewhere in a row of its own and is appended to.
-/
import Derived.Test.YtilelklcfgemoaaPg
import Derived.Deep.AppendSrc
import Derived.Deep.Upon
namespace Go.Proofs.Ytilelklcfgemoaa
open Go.RowKit
set_option linter.unusedVariables false

theorem Kept.setCells {S : List Nat} {a : World} {b : Nat} (hb : b ∈ S) : ∀ (vs : List Value) (o : Nat) (w : World), Kept S a w → Kept S a (w.setCells b o vs)
  | [], _, _, h => h
  | v :: r, o, w, h => by
    rw [World.setCells]
    exact Kept.setCells hb r (o + 1) _ (h.setCell (.inl hb) v)
theorem size_setCells' (b : Nat) : ∀ (vs : List Value) (o : Nat) (w : World), (w.setCells b o vs).heap.size = w.heap.size
  | [], _, _ => rfl
  | v :: r, o, w => by rw [World.setCells, size_setCells' b r]; simp
/-- Ints as cells. -/
def C64 (l : List Nat) : List Value := l.map fun (n : Nat) => Value.int .i64 (n : Int)
theorem C64_length (l : List Nat) : (C64 l).length = l.length := by simp [C64]
theorem C64_append (a b : List Nat) : C64 (a ++ b) = C64 a ++ C64 b := by simp [C64]
theorem C64_one (l : List Nat) : ∀ u ∈ C64 l, u.oneCell' = true := by
  intro u hu
  simp only [C64, List.mem_map] at hu
  obtain ⟨b, _, rfl⟩ := hu
  rfl
theorem C64_at {l : List Nat} {j n : Nat} (h : l[j]? = some n) : (C64 l)[j]? = some (.int .i64 (n : Int)) := by simp [C64, h]
theorem C64_inv {l : List Nat} {j : Nat} {u : Value} (h : (C64 l)[j]? = some u) : ∃ n, l[j]? = some n ∧ u = .int .i64 (n : Int) := by
  simp only [C64, List.getElem?_map, Option.map_eq_some_iff] at h
  obtain ⟨n, h1, h2⟩ := h
  exact ⟨n, h1, h2.symm⟩
/-- The slice v reads as the ints l. -/
def ReadsI (w : World) (v : Value) (l : List Nat) : Prop :=
  ∃ a cap, v = .slice a l.length cap ∧ l.length ≤ cap ∧ cap ≤ maxLen ∧ (a = none → cap = 0) ∧ (l ≠ [] → ∃ b o, a = some ⟨b, o, none⟩ ∧ ∀ (j u : Nat), l[j]? = some u → w.cell? ⟨b, o + j, none⟩ = some (.int .i64 (u : Int)))
theorem ReadsI.nil (w : World) : ReadsI w (.slice none 0 0) [] := ⟨none, 0, rfl, by simp, by simp, by simp, by simp⟩
theorem ReadsI.form {w : World} {v : Value} {l : List Nat} (h : ReadsI w v l) : ∃ a c, v = .slice a l.length c ∧ l.length ≤ c ∧ c ≤ maxLen := by
  obtain ⟨a, c, h1, h2, h3, _⟩ := h
  exact ⟨a, c, h1, h2, h3⟩
theorem ReadsI.at {w : World} {v : Value} {l : List Nat} (h : ReadsI w v l) (k n : Nat) (hn : l[k]? = some n) : ∃ g o c, v = .slice (some ⟨g, o, none⟩) l.length c ∧ w.cell? ⟨g, o + k, none⟩ = some (.int .i64 (n : Int)) := by
  obtain ⟨a, cap, rfl, _, _, _, h5⟩ := h
  obtain ⟨b, o, rfl, hc⟩ := h5 (by intro e; subst e; simp at hn)
  exact ⟨b, o, cap, rfl, hc k n hn⟩
theorem ReadsI.kept {S : List Nat} {w w' : World} {v : Value} {l : List Nat} (h : ReadsI w v l) (k : Kept S w w') (hn : ∀ g, v.ownBlock = some g → g ∉ S) : ReadsI w' v l := by
  obtain ⟨a, cap, rfl, h2, h3, h4, h5⟩ := h
  refine ⟨a, cap, rfl, h2, h3, h4, fun hl => ?_⟩
  obtain ⟨b, o, rfl, hc⟩ := h5 hl
  refine ⟨b, o, rfl, fun j u hu => ?_⟩
  have := hc j u hu
  rw [k.cell (World.block_lt_of_cell? w _ this) (hn b rfl)]
  exact this
/-- The slice v owns the ints l. -/
def OwnsI (w : World) (v : Value) (l : List Nat) : Prop := w.ownsRow 0 3 1 v l.length (C64 l)
theorem OwnsI.nil (w : World) : OwnsI w (.slice none 0 0) [] := World.ownsRow_nil w 0 3 1
theorem OwnsI.form {w : World} {v : Value} {l : List Nat} (h : OwnsI w v l) : ∃ a c, v = .slice a l.length c ∧ l.length ≤ c ∧ c ≤ 9223372036854775807 := by
  rcases h.2 with ⟨rfl, h0⟩ | ⟨g, cap, cur, rfl, _, _, h1, h2, _⟩
  · exact ⟨none, 0, by rw [h0], by omega, by omega⟩
  · exact ⟨_, cap, rfl, h1, h2⟩
theorem OwnsI.kept {S : List Nat} {w w' : World} {v : Value} {l : List Nat} (h : OwnsI w v l) (k : Kept S w w') (hn : ∀ g, v.ownBlock = some g → g ∉ S) : OwnsI w' v l := ownsRow_keep h k hn
theorem OwnsI.lt {w : World} {v : Value} {l : List Nat} (h : OwnsI w v l) {k : Nat} (hk : v.ownBlock = some k) : k < w.heap.size := (World.ownsRow.lt h k hk).2
theorem OwnsI.at {w : World} {v : Value} {l : List Nat} (h : OwnsI w v l) (k n : Nat) (hn : l[k]? = some n) : ∃ g c, v = .slice (some ⟨g, 0, none⟩) l.length c ∧ w.cell? ⟨g, k, none⟩ = some (.int .i64 (n : Int)) := by
  have hcells := fun g hg => World.ownsRow.cells h (g := g) hg
  rcases h.2 with ⟨rfl, h0⟩ | ⟨g, cap, cur, rfl, _, hg, _⟩
  · have := (List.getElem?_eq_some_iff.1 hn).1; omega
  · refine ⟨g, cap, rfl, ?_⟩
    have := hcells g rfl k (.int .i64 (n : Int)) (by simp [C64, hn])
    rw [add_at, Nat.zero_add] at this
    exact this
theorem OwnsI.reads {w : World} {v : Value} {l : List Nat} (h : OwnsI w v l) : ReadsI w v l := by
  have hcells := fun g hg => World.ownsRow.cells h (g := g) hg
  rcases h.2 with ⟨rfl, h0⟩ | ⟨g, cap, cur, rfl, _, hg, h1, h2, h3, h4⟩
  · have : l = [] := List.eq_nil_of_length_eq_zero h0
    subst this
    exact ReadsI.nil w
  · refine ⟨some ⟨g, 0, none⟩, cap, rfl, h1, h2, by simp, fun hl => ⟨g, 0, rfl, fun j u hu => ?_⟩⟩
    have := hcells g rfl j (.int .i64 (u : Int)) (by simp [C64, hu])
    rw [add_at] at this
    exact this
/-- 'append(v, m)'. -/
theorem append_int {w : World} {v : Value} {ns : List Nat} (ho : OwnsI w v ns) (m : Nat) (hn : ns.length ≤ 1000000) :
    ∃ ad c w', (Builtin.append_ #[36, 36] 36 #[v, .slice (some ⟨w.heap.size, 0, none⟩) 1 1]).run Try.prog (w.alloc (.cells #[.int .i64 (m : Int)] 3)) = .ok (.slice ad (ns.length + 1) c) w' ∧ OwnsI w' (.slice ad (ns.length + 1) c) (ns ++ [m]) ∧ Kept v.ownBlock.toList w w' ∧ New w v (.slice ad (ns.length + 1) c) := by
  have k0 := (Kept.refl [] w).alloc (.cells #[.int .i64 (m : Int)] 3)
  obtain ⟨i0, hi, hz0, hz1, hz2⟩ := info_parts inf3
  obtain ⟨v', w', hrun, e1, e2, e3, e4⟩ := run_append_own_at (P := Try.prog) (w.alloc (.cells #[.int .i64 (m : Int)] 3)) 0 36 36 3 i0 _ 1 8 Try.underlying36 hi hz0 hz1 hz2 rfl (by omega) v ns.length (C64 ns) (ho.kept k0 (by simp)) ⟨w.heap.size, 0, none⟩ 1 1 [.int .i64 (m : Int)] rfl (fun j x hx => by
    cases j with
    | zero => simp at hx; subst hx; simp [Addr.add]
    | succ j => simp at hx) (by simp [Value.oneCell']) (by unfold maxLen; omega) (by omega) (Nat.zero_le _)
  obtain ⟨ad, cap, rfl⟩ : ∃ ad cap, v' = .slice ad (ns.length + 1) cap := by
    rcases e1.2 with ⟨rfl, h0⟩ | ⟨g, cap, cur, rfl, _⟩
    · omega
    · exact ⟨_, cap, rfl⟩
  refine ⟨ad, cap, w', hrun, ?_, (k0.mono (by simp)).grown e2 (fun x hx => .inl (by rw [Option.mem_toList]; exact hx)), fun g hg => ?_⟩
  · unfold OwnsI
    rw [List.length_append]
    have : C64 (ns ++ [m]) = C64 ns ++ [.int .i64 (m : Int)] := by simp [C64]
    rw [this]
    exact e1
  · rcases e4 with h | h
    · exact .inl (by rw [← h]; exact hg)
    · have := Option.some.inj (h.symm.trans hg)
      have hs := k0.size
      exact .inr (by omega)
/-- The slice v has the ints l, in a part of a row that nobody else has. -/
def FrS (w : World) (v : Value) (l : List Nat) : Prop :=
  (v = .slice none 0 0 ∧ l = []) ∨ ∃ g o c, v = .slice (some ⟨g, o, none⟩) l.length c ∧ l.length ≤ c ∧ c ≤ maxLen ∧ g < w.heap.size ∧ (∀ j, j < c → (w.cell? ⟨g, o + j, none⟩).isSome = true ∧ w.frozen? ⟨g, o + j, none⟩ = false) ∧
    ∀ (j u : Nat), l[j]? = some u → w.cell? ⟨g, o + j, none⟩ = some (.int .i64 (u : Int))
theorem FrS.nil (w : World) : FrS w (.slice none 0 0) [] := .inl ⟨rfl, rfl⟩
theorem FrS.lt {w : World} {v : Value} {l : List Nat} (h : FrS w v l) {k : Nat} (hk : v.ownBlock = some k) : k < w.heap.size := by
  rcases h with ⟨rfl, _⟩ | ⟨g, o, c, rfl, _, _, h4, _⟩
  · simp [Value.ownBlock] at hk
  · simp [Value.ownBlock] at hk; omega
theorem FrS.kept {S : List Nat} {w w' : World} {v : Value} {l : List Nat} (h : FrS w v l) (k : Kept S w w') (hn : ∀ g, v.ownBlock = some g → g ∉ S) : FrS w' v l := by
  rcases h with h | ⟨g, o, c, rfl, h2, h3, h4, h5, h6⟩
  · exact .inl h
  · have hb := k.block g h4 (hn g rfl)
    have hc : ∀ j, w'.cell? ⟨g, j, none⟩ = w.cell? ⟨g, j, none⟩ := fun j => World.cell?_of_block (w := w) hb
    have hf : ∀ j, w'.frozen? ⟨g, j, none⟩ = w.frozen? ⟨g, j, none⟩ := fun j => World.frozen?_of_block (w := w) hb
    exact .inr ⟨g, o, c, rfl, h2, h3, Nat.lt_of_lt_of_le h4 k.size, fun j hj => by rw [hc, hf]; exact h5 j hj, fun j u hu => by rw [hc]; exact h6 j u hu⟩
theorem FrS.reads {w : World} {v : Value} {l : List Nat} (h : FrS w v l) : ReadsI w v l := by
  rcases h with ⟨rfl, rfl⟩ | ⟨g, o, c, rfl, h2, h3, h4, h5, h6⟩
  · exact ReadsI.nil w
  · exact ⟨_, c, rfl, h2, h3, by simp, fun _ => ⟨g, o, rfl, h6⟩⟩
theorem OwnsI.frs {w : World} {v : Value} {l : List Nat} (h : OwnsI w v l) : FrS w v l := by
  have hcells := fun g hg => World.ownsRow.cells h (g := g) hg
  rcases h.2 with ⟨rfl, h0⟩ | ⟨g, cap, cur, rfl, _, hg, h1, h2, h3, h4⟩
  · exact .inl ⟨rfl, List.eq_nil_of_length_eq_zero h0⟩
  · refine .inr ⟨g, 0, cap, rfl, h1, h2, lt_of_block hg, fun j hj => ?_, fun j u hu => ?_⟩
    · rw [Nat.zero_add]
      constructor
      · simp [World.cell?, hg]; omega
      · simp [World.frozen?, hg]
    · have := hcells g rfl j (.int .i64 (u : Int)) (by simp [C64, hu])
      rw [add_at] at this
      exact this
theorem FrS.src {w : World} {v : Value} {l : List Nat} (h : ReadsI w v l) : Src Try.prog 1 36 v l.length (C64 l) w := by
  obtain ⟨a, cap, rfl, h2, h3, h4, h5⟩ := h
  cases a with
  | none =>
    have hz := h4 rfl
    have : l = [] := List.eq_nil_of_length_eq_zero (by omega)
    subst this
    exact Src.ofNil w Try.underlying36 cap
  | some a =>
    refine Src.ofSlice w Try.underlying36 a _ cap (C64 l) (by rw [C64_length, Nat.mul_one]) (fun j u hu => ?_) (C64_one l)
    obtain ⟨n, hn, rfl⟩ := C64_inv hu
    obtain ⟨b, o, e, hc⟩ := h5 (by intro e; subst e; simp at hn)
    injection e with e
    subst e
    rw [add_at]
    exact hc j n hn
/-- 'append(v, m...)': behind it v's row, or a new one, has both. -/
theorem FrS.append {w : World} {v v2 : Value} {l m : List Nat} (h : FrS w v l) (hr : ReadsI w v2 m) (hb : l.length + m.length ≤ 1000000) :
    ∃ ad c w', (Builtin.append_ #[36, 36] 36 #[v, v2]).run Try.prog w = .ok (.slice ad (l.length + m.length) c) w' ∧ FrS w' (.slice ad (l.length + m.length) c) (l ++ m) ∧ Kept v.ownBlock.toList w w' ∧ New w v (.slice ad (l.length + m.length) c) := by
  obtain ⟨i0, hi, hz0, hz1, hz2⟩ := info_parts inf3
  have hs : Src Try.prog i0.size 36 v2 m.length (C64 m) w := by rw [hz1]; exact FrS.src hr
  -- a new row
  have grow : ∀ (bs : Option Addr) (c : Nat), v = .slice bs l.length c → c < l.length + m.length → (Builtin.firstCells i0.size l.length (.slice bs l.length c)).run Try.prog w.drew = .ok (C64 l).toArray w.drew →
      ∃ ad c w', (Builtin.append_ #[36, 36] 36 #[v, v2]).run Try.prog w = .ok (.slice ad (l.length + m.length) c) w' ∧ FrS w' (.slice ad (l.length + m.length) c) (l ++ m) ∧ Kept v.ownBlock.toList w w' ∧ New w v (.slice ad (l.length + m.length) c) := by
    rintro bs c rfl hc hold
    have hrun := run_append_grow_src (P := Try.prog) w 36 36 36 3 i0 _ Try.underlying36 hi hz0 bs l.length c (C64 l) hold v2 m.length (C64 m) hs hc (by omega) (growslice_fits hc (by rw [hz2]; omega))
    have hge := grownCap_ge w (l.length + m.length) c 3
    have hcm := grownCap_le_maxLen w (l.length + m.length) c 3 (by unfold maxLen; omega)
    generalize grownCap w (l.length + m.length) c 3 = gc at hrun hge hcm
    have hsz : ((C64 l ++ C64 m).toArray ++ Builtin.zeroCells (Value.int .i64 0).cells (gc - (l.length + m.length))).size = gc := by
      rw [Array.size_append, size_zeroCells, List.size_toArray, List.length_append, C64_length, C64_length]
      simp [Value.cells]
      omega
    have hat : ∀ (j u : Nat), (l ++ m)[j]? = some u → ((C64 l ++ C64 m).toArray ++ Builtin.zeroCells (Value.int .i64 0).cells (gc - (l.length + m.length)))[j]? = some (Value.int .i64 ((u : Nat) : Int)) := fun j u hu => by
      have h1 : (C64 (l ++ m))[j]? = some (Value.int .i64 (u : Int)) := C64_at hu
      rw [C64_append] at h1
      have hlt := (List.getElem?_eq_some_iff.1 h1).1
      rw [Array.getElem?_append_left (by simpa using hlt), List.getElem?_toArray]
      exact h1
    generalize ((C64 l ++ C64 m).toArray ++ Builtin.zeroCells (Value.int .i64 0).cells (gc - (l.length + m.length))) = arr at hrun hsz hat
    have hbk : (w.drew.alloc (.cells arr 3)).heap[w.heap.size]? = some (.cells arr 3 (0, 0)) := heap_alloc_new w.drew _
    have kk : Kept (Value.slice bs l.length c).ownBlock.toList w (w.drew.alloc (.cells arr 3)) := (((Kept.refl [] w).drew).alloc _).mono (by simp)
    have hlt : w.heap.size < (w.drew.alloc (.cells arr 3)).heap.size := lt_of_block hbk
    generalize w.drew.alloc (.cells arr 3) = W at hrun hbk kk hlt
    refine ⟨_, gc, _, hrun, .inr ⟨w.heap.size, 0, gc, by rw [List.length_append], by rw [List.length_append]; exact hge, hcm, hlt, fun j hj => ?_, fun j u hu => ?_⟩, kk, fun g hg => ?_⟩
    · rw [Nat.zero_add]
      simp [World.cell?, World.frozen?, hbk]
      omega
    · rw [Nat.zero_add]
      simp only [World.cell?, hbk]
      exact hat j u hu
    · simp [Value.ownBlock] at hg
      exact .inr (by omega)
  rcases h with ⟨rfl, rfl⟩ | ⟨g, o, c, rfl, h2, h3, h4, h5, h6⟩
  · by_cases hm : m = []
    · subst hm
      have := run_append_nothing (P := Try.prog) w 36 36 36 3 i0 Try.underlying36 hi none 0 0 (Nat.le_refl _) v2 hs
      exact ⟨none, 0, w, this, FrS.nil w, Kept.refl _ w, New.refl w _⟩
    · exact grow none 0 rfl (by have := List.length_pos_iff.2 hm; simp; omega) (run_firstCells_none w.drew _ _ _ _)
  · by_cases hc : l.length + m.length ≤ c
    · have hrun := run_append_room_src (P := Try.prog) w 36 36 36 3 i0 Try.underlying36 hi g o l.length c v2 m.length (C64 m) hs hc (fun j hj => by rw [hz1, Nat.mul_one, Nat.add_assoc]; rw [C64_length] at hj; exact (h5 _ (by omega)).1) (fun j hj => by rw [hz1, Nat.mul_one, Nat.add_assoc]; rw [C64_length] at hj; exact (h5 _ (by omega)).2)
      rw [hz1, Nat.mul_one] at hrun
      refine ⟨_, c, _, hrun, .inr ⟨g, o, c, by rw [List.length_append], by rw [List.length_append]; exact hc, h3, ?_, ?_, ?_⟩, ?_, New.refl w _⟩
      · rw [size_setCells']; exact h4
      · intro j hj
        refine ⟨?_, by rw [World.frozen?_setCells]; exact (h5 j hj).2⟩
        by_cases hjl : j < l.length
        · rw [World.cell?_setCells_out _ _ _ _ _ (fun _ _ => .inl (by show o + j < _; omega))]
          exact (h5 j hj).1
        · by_cases hjm : j < l.length + m.length
          · have := World.cell?_setCells_in g (C64 m) (o + l.length) w (fun i hi => by rw [Nat.add_assoc]; rw [C64_length] at hi; exact (h5 _ (by omega)).1) (j - l.length) (by rw [C64_length]; omega)
            rw [show o + l.length + (j - l.length) = o + j by omega] at this
            rw [this]; rfl
          · rw [World.cell?_setCells_out _ _ _ _ _ (fun _ _ => .inr (by show _ ≤ o + j; rw [C64_length]; omega))]
            exact (h5 j hj).1
      · intro j u hu
        by_cases hjl : j < l.length
        · rw [World.cell?_setCells_out _ _ _ _ _ (fun _ _ => .inl (by show o + j < _; omega))]
          rw [List.getElem?_append_left hjl] at hu
          exact h6 j u hu
        · rw [List.getElem?_append_right (by omega)] at hu
          have hlt := (List.getElem?_eq_some_iff.1 hu).1
          have := World.cell?_setCells_in g (C64 m) (o + l.length) w (fun i hi => by rw [Nat.add_assoc]; rw [C64_length] at hi; exact (h5 _ (by omega)).1) (j - l.length) (by rw [C64_length]; omega)
          rw [show o + l.length + (j - l.length) = o + j by omega] at this
          rw [this]
          have h9 := C64_at hu
          rw [List.getElem?_eq_getElem (by rw [C64_length]; omega)] at h9
          exact h9
      · exact Kept.setCells (by simp [Value.ownBlock]) _ _ _ (Kept.refl _ w)
    · refine grow _ c rfl (by omega) ?_
      refine run_firstCells_some w.drew _ _ _ _ _ (C64 l) (by rw [hz1, C64_length, Nat.mul_one]) (fun j u hu => ?_)
      obtain ⟨n, hn, rfl⟩ := C64_inv hu
      rw [add_at]
      exact h6 j n hn
end Go.Proofs.Ytilelklcfgemoaa
