/-
  Slices of bytes that are cut; a Reader behind a call. Nothing here speaks of the program.
-/
import Derived.Test.YtpodoiichpnpjaaDoorStr
import Derived.Test.YtpodoiichpnpjaaDoorNum
namespace Go.Proofs.YtpodoiichpnpjaaDoor
set_option maxRecDepth 100000
open Go.RowKit
/-- The slice v1 lies where v lay, or nowhere. -/
def Within (v v1 : Value) : Prop := ∀ g, v1.ownBlock = some g → v.ownBlock = some g
theorem Within.refl (v : Value) : Within v v := fun _ h => h
theorem Within.trans {v v1 v2 : Value} (h : Within v v1) (k : Within v1 v2) : Within v v2 := fun g hg => h g (k g hg)
/-- 'v[k:]'. -/
theorem slice_from {P : Program} (t e : TypeId) (ht : P.underlying t = some (.slice e)) (hz : ∀ w, (Go.sizeOf e).run P w = .ok 1 w) (kl : IntKind) (a : Option Addr) (cap k : Nat) (l : List UInt8) (w : World) (h : Reads w (.slice a l.length cap) l) (hk : k ≤ l.length) :
    ∃ a' c', (∀ W, (Instr.slice t (.slice a l.length cap) (some (.int kl (k : Int))) none none).run P W = .ok (.slice a' (l.length - k) c') W) ∧ Reads w (.slice a' (l.length - k) c') (l.drop k) ∧ Within (.slice a l.length cap) (.slice a' (l.length - k) c') := by
  have ht' : P.underlying t = some (.slice (P.elem t)) := by simp [Program.elem, ht]
  have he : P.elem t = e := by simp [Program.elem, ht]
  obtain ⟨a0, cap0, hv, h2, h3, h4, h5⟩ := h
  injection hv with e1 e2 e3
  subst e1 e3
  refine ⟨if cap = k then a else a.map (·.add (k * 1)), cap - k, fun W => ?_, ?_, ?_⟩
  · rw [run_slice_l W t _ _ _ ht' kl _ (by omega) (by omega), he, hz]
    simp [Result.andThen, sliced]
  · refine ⟨_, cap - k, by rw [List.length_drop], by rw [List.length_drop]; omega, by omega, ?_, ?_⟩
    · intro hn
      by_cases hc : cap = k
      · omega
      · rw [if_neg hc] at hn
        have : a = none := by cases a <;> simp_all
        have := h4 this
        omega
    · intro hne
      have hlt : k < l.length := by
        rcases Nat.lt_or_ge k l.length with h | h
        · exact h
        · exact absurd (List.drop_eq_nil_of_le h) hne
      obtain ⟨b, o, rfl, hc⟩ := h5 (by intro h; subst h; simp at hlt)
      refine ⟨b, o + k, ?_, fun j u hu => ?_⟩
      · rw [if_neg (by omega)]
        simp only [Option.map_some, Nat.mul_one]
        congr 1
        unfold Addr.add; split <;> simp_all
      · rw [List.getElem?_drop] at hu
        have := hc (k + j) u hu
        rw [Nat.add_assoc]
        exact this
  · intro g hg
    by_cases hc : cap = k
    · rw [if_pos hc] at hg
      cases a <;> exact hg
    · rw [if_neg hc] at hg
      cases a with
      | none => simp [Value.ownBlock] at hg
      | some x =>
        simp only [Option.map_some, Value.ownBlock] at hg ⊢
        rw [← hg]
        congr 1
        unfold Addr.add; split <;> rfl
/-- 'v[:k]'. -/
theorem slice_to {P : Program} (t e : TypeId) (ht : P.underlying t = some (.slice e)) (hz : ∀ w, (Go.sizeOf e).run P w = .ok 1 w) (kh : IntKind) (a : Option Addr) (cap k : Nat) (l : List UInt8) (w : World) (h : Reads w (.slice a l.length cap) l) (hk : k ≤ l.length) :
    ∃ a' c', (∀ W, (Instr.slice t (.slice a l.length cap) none (some (.int kh (k : Int))) none).run P W = .ok (.slice a' k c') W) ∧ Reads w (.slice a' k c') (l.take k) := by
  have ht' : P.underlying t = some (.slice (P.elem t)) := by simp [Program.elem, ht]
  have he : P.elem t = e := by simp [Program.elem, ht]
  obtain ⟨a0, cap0, hv, h2, h3, h4, h5⟩ := h
  injection hv with e1 e2 e3
  subst e1 e3
  have hl : (l.take k).length = k := by rw [List.length_take]; omega
  refine ⟨if cap = 0 then a else a.map (·.add 0), cap, fun W => ?_, ?_⟩
  · rw [run_slice_h W t _ _ _ ht' kh _ (by omega) (by omega), he, hz]
    simp [Result.andThen, sliced]
  · refine ⟨_, cap, by rw [hl], by omega, h3, ?_, ?_⟩
    · intro hn
      by_cases hc : cap = 0
      · exact hc
      · rw [if_neg hc] at hn
        have : a = none := by cases a <;> simp_all
        exact h4 this
    · intro hne
      have hne' : l ≠ [] := by intro h; subst h; simp at hne
      obtain ⟨b, o, rfl, hc⟩ := h5 hne'
      have hpos : 0 < l.length := List.length_pos_iff.2 hne'
      refine ⟨b, o, ?_, fun j u hu => ?_⟩
      · rw [if_neg (by omega)]
        simp [Addr.add]
      · have hj : j < k := by
          have := (List.getElem?_eq_some_iff.1 hu).1; omega
        rw [List.getElem?_take_of_lt hj] at hu
        exact hc j u hu
/-- 'string(v)'. -/
theorem string_of {P : Program} (t e : TypeId) (ht : P.underlying t = some (.slice e)) (u : TypeId) (he : P.underlying e = some (.int .u8)) (hu : P.underlying u = some .string) (v : Value) (l : List UInt8) (w : World) (h : Reads w v l) :
    (convert t u v).run P w = .ok (.string ⟨l.toArray⟩) w := by
  obtain ⟨a, cap, rfl, h2, h3, h4, h5⟩ := h
  cases a with
  | none =>
    have h0 : l = [] := List.eq_nil_of_length_eq_zero (by have := h4 rfl; omega)
    subst h0
    rw [run_convert_bytes_string w t u e _ _ _ ht he hu]
    simp [Conv.bytesToString]
    rfl
  | some a =>
    refine run_convert_bytes_back w t u e a cap l ht he hu fun j hj => ?_
    obtain ⟨b, o, hab, hc⟩ := h5 (by intro h; subst h; simp at hj)
    simp at hab
    subst hab
    have hadd : (⟨b, o, Option.none⟩ : Addr).add j = ⟨b, o + j, Option.none⟩ := by unfold Addr.add; split <;> simp_all
    rw [hadd]
    exact hc j l[j] (by simp)
/-- What a call leaves of a Reader. -/
def Rest (t : TypeId) (w : World) (p : Nat) (v : Value) (l : List UInt8) (bad : Bool) (w' : World) : Prop :=
  ∃ v', IsR t w' p v' l bad ∧ Kept [p] w w' ∧ Within v v'
theorem two_set0 {w : World} {b : Nat} {v u x : Value} {t : TypeId} (h : w.heap[b]? = some (.cells #[v, u] t (0, 0))) : (w.setCell ⟨b, 0, none⟩ x).heap[b]? = some (.cells #[x, u] t (0, 0)) := by
  have hlt := lt_of_block h
  have h' : w.heap[b] = .cells #[v, u] t (0, 0) := by simpa [Array.getElem?_eq_getElem hlt] using h
  show (w.heap.modify b _)[b]? = _
  rw [Array.getElem?_eq_getElem (by simpa using hlt), Array.getElem_modify_self, h']
  rfl
theorem two_set1 {w : World} {b : Nat} {v u x : Value} {t : TypeId} (h : w.heap[b]? = some (.cells #[v, u] t (0, 0))) : (w.setCell ⟨b, 1, none⟩ x).heap[b]? = some (.cells #[v, x] t (0, 0)) := by
  have hlt := lt_of_block h
  have h' : w.heap[b] = .cells #[v, u] t (0, 0) := by simpa [Array.getElem?_eq_getElem hlt] using h
  show (w.heap.modify b _)[b]? = _
  rw [Array.getElem?_eq_getElem (by simpa using hlt), Array.getElem_modify_self, h']
  rfl
/-- A Reader that has read on. -/
theorem rest_on {t : TypeId} {w : World} {p : Nat} {v v1 : Value} {l l1 : List UInt8} {bad : Bool} (hR : IsR t w p v l bad) (h1 : Reads w v1 l1) (hi : Within v v1) (hb : bad = true → l1 = []) : Rest t w p v l1 bad (w.setCell ⟨p, 0, none⟩ v1) := by
  have hne : v1.ownBlock ≠ some p := fun h => hR.apart (hi p h)
  have k : Kept [p] w (w.setCell ⟨p, 0, none⟩ v1) := (Kept.refl [p] w).setCell (.inl (by simp)) _
  exact ⟨v1, ⟨two_set0 hR.box, h1.kept k (fun g hg => by intro hm; simp at hm; subst hm; exact hne hg), hne, hb⟩, k, hi⟩
/-- A Reader that has become bad. -/
theorem rest_bad {t : TypeId} {w : World} {p : Nat} {v : Value} {l : List UInt8} {bad : Bool} (hR : IsR t w p v l bad) : Rest t w p v [] true ((w.setCell ⟨p, 0, none⟩ (.slice none 0 0)).setCell ⟨p, 1, none⟩ (.bool true)) :=
  ⟨.slice none 0 0, ⟨two_set1 (two_set0 hR.box), Reads.nil _, by simp [Value.ownBlock], fun _ => rfl⟩, ((Kept.refl [p] w).setCell (.inl (by simp)) _).setCell (.inl (by simp)) _, fun g hg => by simp [Value.ownBlock] at hg⟩
theorem Rest.trans {t : TypeId} {w w1 w2 : World} {p : Nat} {v v1 : Value} {l2 : List UInt8} {b2 : Bool} (k : Kept [p] w w1) (hn : Within v v1) (h2 : Rest t w1 p v1 l2 b2 w2) : Rest t w p v l2 b2 w2 := by
  obtain ⟨v2, hR, k2, n2⟩ := h2
  exact ⟨v2, hR, k.trans k2 (fun x hx => .inl hx), hn.trans n2⟩
/-- What Reader.Number answers, and leaves. -/
def rnum (l : List UInt8) (bad : Bool) : Nat × List UInt8 × Bool := if (dec l).2 = 0 then (0, [], true) else ((dec l).1, l.drop (dec l).2, bad)
/-- What Reader.Text answers, and leaves. -/
def rtext (l : List UInt8) (bad : Bool) : List UInt8 × List UInt8 × Bool :=
  if (rnum l bad).2.1.length < (rnum l bad).1 then ([], [], true)
  else ((rnum l bad).2.1.take (rnum l bad).1, (rnum l bad).2.1.drop (rnum l bad).1, (rnum l bad).2.2)
theorem rnum_lt (l : List UInt8) (bad : Bool) : (rnum l bad).1 < 18446744073709551616 := by
  unfold rnum; split
  · decide
  · exact dec_bound l
end Go.Proofs.YtpodoiichpnpjaaDoor
