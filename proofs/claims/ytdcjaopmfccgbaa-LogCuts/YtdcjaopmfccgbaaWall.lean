/-
  The writes of units, one behind the other, and what is left of them behind a cut; rows of ints; a part of a row of texts.
-/
import Derived.Test.YtdcjaopmfccgbaaEpWalk
namespace Go.Proofs.Ytdcjaopmfccgbaa
open Go.RowKit
set_option linter.unusedVariables false

/-- The writes of the units us, from st on. -/
def wall (fr ep : Nat) : Nat → List (List UInt8) → List Wr
  | _, [] => []
  | st, l :: t => uws fr ep st l (bks l.length) ++ wall fr ep (st + bks l.length) t
theorem wall_append (fr ep : Nat) (b : List (List UInt8)) : ∀ (a : List (List UInt8)) (st : Nat), wall fr ep st (a ++ b) = wall fr ep st a ++ wall fr ep (st + tot a) b
  | [], st => by simp [wall, tot]
  | l :: t, st => by
    simp only [List.cons_append, wall, tot]
    rw [wall_append fr ep b t, List.append_assoc, Nat.add_assoc]
theorem wall_snoc (fr ep : Nat) (us : List (List UInt8)) (l : List UInt8) : wall fr ep 0 (us ++ [l]) = wall fr ep 0 us ++ uws fr ep (tot us) l (bks l.length) := by
  rw [wall_append]
  simp [wall]
theorem wall_length (fr ep : Nat) : ∀ (us : List (List UInt8)) (st : Nat), (wall fr ep st us).length = tot us
  | [], st => rfl
  | l :: t, st => by
    simp only [wall, tot, List.length_append, uws_length]
    rw [wall_length fr ep t]
theorem wall_ar (fr ct ep : Nat) (ha : fr + ct ≤ 65536) (he : ep < 18446744073709551616) : ∀ (us : List (List UInt8)), (∀ l ∈ us, l ≠ [] ∧ l.length ≤ 60000) → tot us ≤ ct → Ar (wall fr ep 0 us) fr ct ep us := by
  intro us
  generalize hn : us.length = n
  induction n generalizing us with
  | zero =>
    intro _ _
    have : us = [] := List.eq_nil_of_length_eq_zero hn
    subst this
    exact Ar.new fr ct ep ha he
  | succ n ih =>
    intro hu ht
    obtain ⟨t, l, rfl⟩ : ∃ t l, us = t ++ [l] := ⟨us.dropLast, us.getLast (by intro h; subst h; simp at hn), (List.dropLast_concat_getLast _).symm⟩
    rw [tot_snoc] at ht
    rw [wall_snoc]
    have hl := hu l (by simp)
    exact (ih t (by simp at hn; exact hn) (fun x hx => hu x (by simp [hx])) (by omega)).done l ht hl.1 hl.2
theorem cut_ar (fr ct ep : Nat) (ha : fr + ct ≤ 65536) (he : ep < 18446744073709551616) (us : List (List UInt8)) (hu : ∀ l ∈ us, l ≠ [] ∧ l.length ≤ 60000) (ht : tot us ≤ ct) (n k : Nat) (hk : k ≤ us.length) (h1 : tot (us.take k) ≤ n) (h2 : k < us.length → n < tot (us.take (k + 1))) (hn : n ≤ tot us) :
    Ar ((wall fr ep 0 us).take n) fr ct ep (us.take k) := by
  have hb := wall_ar fr ct ep ha he (us.take k) (fun l hl => hu l (List.mem_of_mem_take hl)) (by have := tot_take_le us k; omega)
  have hw : wall fr ep 0 us = wall fr ep 0 (us.take k) ++ wall fr ep (tot (us.take k)) (us.drop k) := by
    have := wall_append fr ep (us.drop k) (us.take k) 0
    rw [List.take_append_drop, Nat.zero_add] at this
    exact this
  rw [hw, List.take_append, wall_length, List.take_of_length_le (by rw [wall_length]; exact h1)]
  by_cases hlt : k < us.length
  · obtain ⟨l, hl⟩ : ∃ l, us[k]? = some l := ⟨us[k], by simp⟩
    have hd : us.drop k = l :: us.drop (k + 1) := by
      rw [List.drop_eq_getElem_cons hlt]
      have : us[k] = l := by
        have := (List.getElem?_eq_some_iff.1 hl).2
        exact this
      rw [this]
    have hts := h2 hlt
    rw [← take_snoc_unit hl, tot_snoc] at hts
    have htk1 := tot_take_le us (k + 1)
    rw [← take_snoc_unit hl, tot_snoc] at htk1
    rw [hd]
    simp only [wall]
    rw [List.take_append_of_le_length (by rw [uws_length]; omega), uws_take _ _ _ _ _ _ (by omega)]
    exact hb.put l (by omega) _ (by omega)
  · rw [List.drop_eq_nil_of_le (by omega)]
    simp only [wall, List.take_nil, List.append_nil]
    exact hb

/-- Ints as cells. -/
def C64 (l : List Nat) : List Value := l.map fun (n : Nat) => Value.int .i64 (n : Int)
/-- The slice v owns the ints l. -/
def OwnsI (w : World) (v : Value) (l : List Nat) : Prop := w.ownsRow 0 3 1 v l.length (C64 l)
theorem OwnsI.nil (w : World) : OwnsI w (.slice none 0 0) [] := World.ownsRow_nil w 0 3 1
theorem OwnsI.form {w : World} {v : Value} {l : List Nat} (h : OwnsI w v l) : ∃ a c, v = .slice a l.length c ∧ l.length ≤ c ∧ c ≤ 9223372036854775807 := by
  rcases h.2 with ⟨rfl, h0⟩ | ⟨g, cap, cur, rfl, _, _, h1, h2, _⟩
  · exact ⟨none, 0, by rw [h0], by omega, by omega⟩
  · exact ⟨_, cap, rfl, h1, h2⟩
theorem OwnsI.kept {S : List Nat} {w w' : World} {v : Value} {l : List Nat} (h : OwnsI w v l) (k : Kept S w w') (hn : ∀ g, v.ownBlock = some g → g ∉ S) : OwnsI w' v l := ownsRow_keep h k hn
theorem OwnsI.keptX {X : List Nat} {w w' : World} {v : Value} {l : List Nat} (h : OwnsI w v l) (k : KX X w w') (hX : ∀ g, v.ownBlock = some g → g ∈ X) : OwnsI w' v l := by
  obtain ⟨S, k, hS⟩ := k
  exact h.kept k (fun g hg => hS g (hX g hg))
theorem OwnsI.lt {w : World} {v : Value} {l : List Nat} (h : OwnsI w v l) {k : Nat} (hk : v.ownBlock = some k) : k < w.heap.size := (World.ownsRow.lt h k hk).2
theorem OwnsI.at {w : World} {v : Value} {l : List Nat} (h : OwnsI w v l) (k n : Nat) (hn : l[k]? = some n) : ∃ g c, v = .slice (some ⟨g, 0, none⟩) l.length c ∧ w.cell? ⟨g, k, none⟩ = some (.int .i64 (n : Int)) := by
  have hcells := fun g hg => World.ownsRow.cells h (g := g) hg
  rcases h.2 with ⟨rfl, h0⟩ | ⟨g, cap, cur, rfl, _, hg, _⟩
  · have := (List.getElem?_eq_some_iff.1 hn).1; omega
  · refine ⟨g, cap, rfl, ?_⟩
    have := hcells g rfl k (.int .i64 (n : Int)) (by simp [C64, hn])
    rw [add_at, Nat.zero_add] at this
    exact this
theorem append_int {w : World} {v : Value} {ns : List Nat} (ho : OwnsI w v ns) (m : Nat) (hn : ns.length ≤ 65536) :
    ∃ ad c w', (Builtin.append_ #[49, 49] 49 #[v, .slice (some ⟨w.heap.size, 0, none⟩) 1 1]).run Try.prog (w.alloc (.cells #[.int .i64 (m : Int)] 3)) = .ok (.slice ad (ns.length + 1) c) w' ∧ OwnsI w' (.slice ad (ns.length + 1) c) (ns ++ [m]) ∧ Kept v.ownBlock.toList w w' ∧ New w v (.slice ad (ns.length + 1) c) := by
  have k0 := (Kept.refl [] w).alloc (.cells #[.int .i64 (m : Int)] 3)
  obtain ⟨i0, hi, hz0, hz1, hz2⟩ := info_parts inf3
  obtain ⟨v', w', hrun, e1, e2, e3, e4⟩ := run_append_own_at (P := Try.prog) (w.alloc (.cells #[.int .i64 (m : Int)] 3)) 0 49 49 3 i0 _ 1 8 Try.underlying49 hi hz0 hz1 hz2 rfl (by omega) v ns.length (C64 ns) (ho.kept k0 (by simp)) ⟨w.heap.size, 0, none⟩ 1 1 [.int .i64 (m : Int)] rfl (fun j x hx => by
    cases j with
    | zero => simp at hx; subst hx; simp [Addr.add]
    | succ j => simp at hx) (by simp [Value.oneCell']) (by unfold maxLen; omega) (by omega) (Nat.zero_le _)
  obtain ⟨ad, cap, rfl⟩ : ∃ ad cap, v' = .slice ad (ns.length + 1) cap := by
    rcases e1.2 with ⟨rfl, h0⟩ | ⟨g, cap, cur, rfl, _⟩
    · omega
    · exact ⟨_, cap, rfl⟩
  refine ⟨ad, cap, w', hrun, ?_, (k0.mono (by simp)).grown e2 (fun x hx => .inl (by rw [Option.mem_toList]; exact hx)), fun g hg => ?_⟩
  · unfold OwnsI
    rw [List.length_append]
    have : C64 (ns ++ [m]) = C64 ns ++ [.int .i64 (m : Int)] := by simp [C64]
    rw [this]
    exact e1
  · rcases e4 with h | h
    · exact .inl (by rw [← h]; exact hg)
    · have := Option.some.inj (h.symm.trans hg)
      have hs := k0.size
      exact .inr (by omega)
theorem sz9 (w : World) : (Go.sizeOf 9).run Try.prog w = .ok 1 w := by
  obtain ⟨i0, hi, hz0, hz1, hz2⟩ := info_parts inf9
  simp [Go.sizeOf, typeInfo, hi, hz1]
/-- 'v[:k]' of a row of texts. -/
theorem slice_texts (a : Option Addr) (c k : Nat) (us : List (List UInt8)) (w : World) (h : ReadsT w (.slice a us.length c) us) (hk : k ≤ us.length) :
    ∃ a' c', (∀ W, (Instr.slice 28 (.slice a us.length c) none (some (.int .i64 (k : Int))) none).run Try.prog W = .ok (.slice a' k c') W) ∧ ∀ W, ReadsT W (.slice a us.length c) us → ReadsT W (.slice a' k c') (us.take k) := by
  have ht' : Try.prog.underlying 28 = some (.slice (Try.prog.elem 28)) := by simp [Program.elem, Try.underlying28]
  have he : Try.prog.elem 28 = 9 := by simp [Program.elem, Try.underlying28]
  have hcap : us.length ≤ c := by
    obtain ⟨a0, cap0, hv, h2, _⟩ := h
    injection hv with e1 e2 e3
    omega
  have hcm : c ≤ maxLen := by
    obtain ⟨a0, cap0, hv, h2, h3, _⟩ := h
    injection hv with e1 e2 e3
    omega
  refine ⟨if c = 0 then a else a.map (·.add 0), c, fun W => ?_, fun W hW => ?_⟩
  · rw [run_slice_h W 28 _ _ _ ht' .i64 _ (by omega) (by omega), he, sz9]
    simp [Result.andThen, sliced]
  · obtain ⟨a0, cap0, hv, h2, h3, h4, h5⟩ := hW
    injection hv with e1 e2 e3
    subst e1 e3
    have hl : (us.take k).length = k := by rw [List.length_take]; omega
    refine ⟨_, c, by rw [hl], by omega, h3, ?_, ?_⟩
    · intro hn
      by_cases hc : c = 0
      · exact hc
      · rw [if_neg hc] at hn
        have : a = none := by cases a <;> simp_all
        exact h4 this
    · intro hne
      have hne' : us ≠ [] := by intro h; subst h; simp at hne
      obtain ⟨b, o, rfl, hc⟩ := h5 hne'
      have hpos : 0 < us.length := List.length_pos_iff.2 hne'
      refine ⟨b, o, ?_, fun j u hu => ?_⟩
      · rw [if_neg (by omega)]
        simp [Addr.add]
      · have hj : j < k := by
          have := (List.getElem?_eq_some_iff.1 hu).1; omega
        rw [List.getElem?_take_of_lt hj] at hu
        exact hc j u hu
end Go.Proofs.Ytdcjaopmfccgbaa
