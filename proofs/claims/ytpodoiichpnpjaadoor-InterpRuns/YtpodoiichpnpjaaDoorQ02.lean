import Derived.KernelRfl
import Derived.IntWalk
import Derived.Test.YtpodoiichpnpjaaDoorQ01
/-
  The plain mathematics of the codec: a number's bytes, and the number that bytes begin with. No program, no memory.
-/
namespace Go.Proofs.YtpodoiichpnpjaaDoor
set_option maxRecDepth 100000
/-- How many bytes a number below 2^64 has. -/
def width (n : Nat) : Nat :=
  if n < 256 then 1 else if n < 65536 then 2 else if n < 16777216 then 3 else if n < 4294967296 then 4 else if n < 1099511627776 then 5 else if n < 281474976710656 then 6 else if n < 72057594037927936 then 7 else 8
theorem width_pos (n : Nat) : 1 ≤ width n ∧ width n ≤ 8 := by unfold width; (repeat' split) <;> omega
/-- The last k bytes of n, the greatest first. -/
def digits : Nat → Nat → List UInt8
  | 0, _ => []
  | k + 1, n => UInt8.ofNat (n / 256 ^ k) :: digits k n
theorem digits_length (k n : Nat) : (digits k n).length = k := by induction k <;> simp_all [digits]
theorem digits_get (k n : Nat) : ∀ i, i < k → (digits k n)[i]? = some (UInt8.ofNat (n / 256 ^ (k - 1 - i))) := by
  induction k with
  | zero => intro i hi; omega
  | succ k ih =>
    intro i hi
    cases i with
    | zero => simp [digits]
    | succ i =>
      simp only [digits, List.getElem?_cons_succ]
      rw [ih i (by omega), show k + 1 - 1 - (i + 1) = k - 1 - i by omega]
theorem digits_take (k n j : Nat) (h1 : 1 ≤ j) (hj : j ≤ k) : (digits k n).take (k - (j - 1)) = (digits k n).take (k - j) ++ [UInt8.ofNat (n / 256 ^ (j - 1))] := by
  rw [show k - (j - 1) = (k - j) + 1 by omega, List.take_add_one, digits_get k n (k - j) (by omega), show k - 1 - (k - j) = j - 1 by omega]
  rfl
theorem pow256 (i : Nat) : (256 : Nat) ^ i = 2 ^ (8 * i) := by rw [show (256 : Nat) = 2 ^ 8 from rfl, ← Nat.pow_mul]
/-- A number's bytes. -/
def enc (n : Nat) : List UInt8 := if n ≤ 247 then [UInt8.ofNat n] else UInt8.ofNat (247 + width n) :: digits (width n) n
theorem enc_length (n : Nat) : 1 ≤ (enc n).length ∧ (enc n).length ≤ 9 := by
  have := width_pos n
  unfold enc; split <;> simp [digits_length]; omega
/-- What bytes are worth, the greatest first. -/
def worth (l : List UInt8) : Nat := l.foldl (fun a b => a * 256 + b.toNat) 0
theorem worth_snoc (l : List UInt8) (b : UInt8) : worth (l ++ [b]) = worth l * 256 + b.toNat := by simp [worth, List.foldl_append]
theorem foldl_worth (l : List UInt8) : ∀ a, l.foldl (fun a b => a * 256 + b.toNat) a = a * 256 ^ l.length + worth l := by
  unfold worth
  induction l with
  | nil => intro a; simp
  | cons b l ih =>
    intro a
    simp only [List.foldl_cons, List.length_cons]
    rw [ih (a * 256 + b.toNat), ih (0 * 256 + b.toNat), Nat.pow_succ, Nat.zero_mul, Nat.zero_add, Nat.add_mul, Nat.mul_assoc, Nat.mul_comm 256]
    omega
theorem worth_cons (b : UInt8) (l : List UInt8) : worth (b :: l) = b.toNat * 256 ^ l.length + worth l := by
  show l.foldl (fun a b => a * 256 + b.toNat) (0 * 256 + b.toNat) = _
  rw [foldl_worth, Nat.zero_mul, Nat.zero_add]
theorem worth_lt (l : List UInt8) : worth l < 256 ^ l.length := by
  induction l with
  | nil => simp [worth]
  | cons b l ih =>
    rw [worth_cons, List.length_cons, Nat.pow_succ]
    have hb := b.toNat_lt
    have : b.toNat * 256 ^ l.length ≤ 255 * 256 ^ l.length := Nat.mul_le_mul_right _ (by omega)
    omega
theorem worth_digits (k n : Nat) : worth (digits k n) = n % 256 ^ k := by
  induction k with
  | zero => simp [digits, worth, Nat.mod_one]
  | succ k ih =>
    rw [digits, worth_cons, digits_length, ih]
    simp only [UInt8.toNat_ofNat', Nat.reducePow]
    rw [Nat.pow_succ, Nat.mod_mul, Nat.mul_comm (n / 256 ^ k % 256)]
    omega
theorem digits_worth (l : List UInt8) (m : Nat) : digits l.length (m * 256 ^ l.length + worth l) = l := by
  induction l generalizing m with
  | nil => rfl
  | cons b l ih =>
    rw [List.length_cons, digits, worth_cons]
    have hw := worth_lt l
    have hp : 0 < 256 ^ l.length := Nat.pos_of_ne_zero (by simp)
    have e : m * 256 ^ (l.length + 1) + (b.toNat * 256 ^ l.length + worth l) = (m * 256 + b.toNat) * 256 ^ l.length + worth l := by
      rw [Nat.pow_succ, Nat.add_mul, Nat.mul_assoc, Nat.mul_comm 256]; omega
    rw [e, ih (m * 256 + b.toNat)]
    congr 1
    rw [Nat.mul_comm (m * 256 + b.toNat), Nat.mul_add_div hp, Nat.div_eq_of_lt hw, Nat.add_zero]
    apply UInt8.toNat_inj.1
    have hb := b.toNat_lt
    simp only [UInt8.toNat_ofNat', Nat.reducePow]
    omega
/-- The number that bytes begin with, and how many of them it takes; 0 bytes: they begin with none. -/
def dec (l : List UInt8) : Nat × Nat :=
  match l with
  | [] => (0, 0)
  | x :: t =>
    if x.toNat ≤ 247 then (x.toNat, 1)
    else if t.length < x.toNat - 247 ∨ (t.head?.map UInt8.toNat).getD 0 = 0 then (0, 0)
    else if worth (t.take (x.toNat - 247)) ≤ 247 then (0, 0)
    else (worth (t.take (x.toNat - 247)), x.toNat - 247 + 1)
theorem dec_le (l : List UInt8) : (dec l).2 ≤ l.length := by
  unfold dec
  split
  · simp
  · repeat' split
    all_goals simp
    all_goals omega
theorem dec_bound (l : List UInt8) : (dec l).1 < 18446744073709551616 := by
  unfold dec
  split
  · simp
  · rename_i x t
    have hx := x.toNat_lt
    repeat' split
    · simp; omega
    · simp
    · simp
    · rename_i h1 h2 h3
      have hw := worth_lt (t.take (x.toNat - 247))
      have hk : (t.take (x.toNat - 247)).length ≤ 8 := by simp; omega
      have := Nat.pow_le_pow_right (n := 256) (by omega) hk
      simp only at hw ⊢
      omega
theorem width_lt (n : Nat) (h : n < 18446744073709551616) : n < 256 ^ width n := by unfold width; (repeat' split) <;> omega
theorem width_ge (n : Nat) (h : 256 ≤ n) : 256 ^ (width n - 1) ≤ n := by unfold width; (repeat' split) <;> simp only [Nat.reducePow, Nat.reduceSub] <;> omega
theorem width_of (n k : Nat) (h1 : 256 ^ k ≤ n) (h2 : n < 256 ^ (k + 1)) (hk : k < 8) : width n = k + 1 := by
  unfold width
  have hc : k = 0 ∨ k = 1 ∨ k = 2 ∨ k = 3 ∨ k = 4 ∨ k = 5 ∨ k = 6 ∨ k = 7 := by omega
  rcases hc with rfl | rfl | rfl | rfl | rfl | rfl | rfl | rfl <;> simp only [Nat.reducePow, Nat.reduceAdd] at h1 h2 ⊢ <;> (repeat' split) <;> omega
/-- What was written is read as it was. -/
theorem dec_enc (n : Nat) (h : n < 18446744073709551616) (rest : List UInt8) : dec (enc n ++ rest) = (n, (enc n).length) := by
  have hw := width_pos n
  unfold enc
  split
  · rename_i h1
    have e : (UInt8.ofNat n).toNat = n := by simp; omega
    simp [dec, e, h1]
  · rename_i h1
    have e : (UInt8.ofNat (247 + width n)).toNat = 247 + width n := by simp; omega
    have hl := digits_length (width n) n
    have ht : (digits (width n) n ++ rest).take (width n) = digits (width n) n := List.take_left' hl
    have hv : worth (digits (width n) n) = n := by rw [worth_digits, Nat.mod_eq_of_lt (width_lt n h)]
    obtain ⟨k, hk⟩ : ∃ k, width n = k + 1 := ⟨width n - 1, by omega⟩
    have hhead : ((digits (width n) n ++ rest).head?.map UInt8.toNat).getD 0 ≠ 0 := by
      rw [hk, digits]
      simp only [List.cons_append, List.head?_cons, Option.map_some, Option.getD_some, UInt8.toNat_ofNat', Nat.reducePow]
      by_cases hn : 256 ≤ n
      · have h2 := width_ge n hn
        have h3 := width_lt n h
        rw [hk] at h2 h3
        simp only [Nat.add_sub_cancel] at h2
        rw [Nat.pow_succ] at h3
        have hp : 0 < 256 ^ k := Nat.pos_of_ne_zero (by simp)
        have h4 := (Nat.le_div_iff_mul_le hp).2 (by simpa using h2 : 1 * 256 ^ k ≤ n)
        have h5 := (Nat.div_lt_iff_lt_mul hp).2 (by rw [Nat.mul_comm]; exact h3 : n < 256 * 256 ^ k)
        omega
      · have : k = 0 := by
          have : width n = 1 := by simp [width]; omega
          omega
        subst this
        simp
        omega
    have h6 : ¬ (digits (width n) n ++ rest).length < 247 + width n - 247 := by simp [hl]
    simp only [List.cons_append, dec, e]
    rw [if_neg (by omega), if_neg (by rintro (h7 | h7); exact h6 h7; exact hhead h7), show 247 + width n - 247 = width n by omega, ht, hv, if_neg h1]
    simp [hl]
/-- Bytes that are read as a number begin with its own. -/
theorem enc_dec (l : List UInt8) (h : (dec l).2 ≠ 0) : enc (dec l).1 = l.take (dec l).2 := by
  match l with
  | [] => simp [dec] at h
  | x :: t =>
    simp only [dec] at h ⊢
    have hx := x.toNat_lt
    by_cases h1 : x.toNat ≤ 247
    · simp [h1, enc]
    · rw [if_neg h1] at h ⊢
      by_cases h2 : t.length < x.toNat - 247 ∨ (t.head?.map UInt8.toNat).getD 0 = 0
      · simp [h2] at h
      · rw [if_neg h2] at h ⊢
        by_cases h3 : worth (t.take (x.toNat - 247)) ≤ 247
        · simp [h3] at h
        · rw [if_neg h3] at h ⊢
          obtain ⟨k, hk⟩ : ∃ k, x.toNat - 247 = k + 1 := ⟨x.toNat - 248, by omega⟩
          have hlen : (t.take (x.toNat - 247)).length = k + 1 := by simp; omega
          have hlt := worth_lt (t.take (x.toNat - 247))
          rw [hlen] at hlt
          cases t with
          | nil => simp at h2
          | cons y t' =>
            have hy : y.toNat ≠ 0 := by
              intro hy; exact h2 (Or.inr (by simp [hy]))
            have hge : 256 ^ k ≤ worth ((y :: t').take (x.toNat - 247)) := by
              rw [hk, List.take_succ_cons, worth_cons]
              have : (t'.take k).length = k := by rw [hk] at hlen; simpa using hlen
              rw [this]
              have : 1 * 256 ^ k ≤ y.toNat * 256 ^ k := Nat.mul_le_mul_right _ (by omega)
              omega
            have hwd := width_of _ k hge hlt (by omega)
            simp only [enc, h3, if_false, hwd]
            have hd := digits_worth ((y :: t').take (x.toNat - 247)) 0
            rw [hlen, Nat.zero_mul, Nat.zero_add] at hd
            rw [hd]
            have hx1 : UInt8.ofNat (247 + (k + 1)) = x := by
              apply UInt8.toNat_inj.1
              simp only [UInt8.toNat_ofNat', Nat.reducePow]
              omega
            rw [hx1, List.take_succ_cons]
/-- An integer's number. -/
def fold (z : Int) : Nat := if z < 0 then (-2 * z - 1).toNat else (2 * z).toNat
/-- A number's integer. -/
def unfold (n : Nat) : Int := if n % 2 = 1 then -((n / 2 : Nat) : Int) - 1 else ((n / 2 : Nat) : Int)
theorem unfold_fold (z : Int) : unfold (fold z) = z := by unfold fold YtpodoiichpnpjaaDoor.unfold; split <;> split <;> omega
theorem fold_unfold (n : Nat) : fold (unfold n) = n := by unfold fold YtpodoiichpnpjaaDoor.unfold; split <;> split <;> omega
theorem fold_lt (z : Int) (h1 : -9223372036854775808 ≤ z) (h2 : z ≤ 9223372036854775807) : fold z < 18446744073709551616 := by unfold fold; split <;> omega
theorem unfold_bound (n : Nat) (h : n < 18446744073709551616) : -9223372036854775808 ≤ unfold n ∧ unfold n ≤ 9223372036854775807 := by
  unfold YtpodoiichpnpjaaDoor.unfold; split <;> omega
end Go.Proofs.YtpodoiichpnpjaaDoor
/-
  Slices of bytes that are cut; a Reader behind a call. Nothing here speaks of the program.
-/
namespace Go.Proofs.YtpodoiichpnpjaaDoor
set_option maxRecDepth 100000
open Go.RowKit
/-- The slice v1 lies where v lay, or nowhere. -/
def Within (v v1 : Value) : Prop := ∀ g, v1.ownBlock = some g → v.ownBlock = some g
theorem Within.refl (v : Value) : Within v v := fun _ h => h
theorem Within.trans {v v1 v2 : Value} (h : Within v v1) (k : Within v1 v2) : Within v v2 := fun g hg => h g (k g hg)
/-- 'v[k:]'. -/
theorem slice_from {P : Program} (t e : TypeId) (ht : P.underlying t = some (.slice e)) (hz : ∀ w, (Go.sizeOf e).run P w = .ok 1 w) (kl : IntKind) (a : Option Addr) (cap k : Nat) (l : List UInt8) (w : World) (h : Reads w (.slice a l.length cap) l) (hk : k ≤ l.length) :
    ∃ a' c', (∀ W, (Instr.slice t (.slice a l.length cap) (some (.int kl (k : Int))) none none).run P W = .ok (.slice a' (l.length - k) c') W) ∧ Reads w (.slice a' (l.length - k) c') (l.drop k) ∧ Within (.slice a l.length cap) (.slice a' (l.length - k) c') := by
  have ht' : P.underlying t = some (.slice (P.elem t)) := by simp [Program.elem, ht]
  have he : P.elem t = e := by simp [Program.elem, ht]
  obtain ⟨a0, cap0, hv, h2, h3, h4, h5⟩ := h
  injection hv with e1 e2 e3
  subst e1 e3
  refine ⟨if cap = k then a else a.map (·.add (k * 1)), cap - k, fun W => ?_, ?_, ?_⟩
  · rw [run_slice_l W t _ _ _ ht' kl _ (by omega) (by omega), he, hz]
    simp [Result.andThen, sliced]
  · refine ⟨_, cap - k, by rw [List.length_drop], by rw [List.length_drop]; omega, by omega, ?_, ?_⟩
    · intro hn
      by_cases hc : cap = k
      · omega
      · rw [if_neg hc] at hn
        have : a = none := by cases a <;> simp_all
        have := h4 this
        omega
    · intro hne
      have hlt : k < l.length := by
        rcases Nat.lt_or_ge k l.length with h | h
        · exact h
        · exact absurd (List.drop_eq_nil_of_le h) hne
      obtain ⟨b, o, rfl, hc⟩ := h5 (by intro h; subst h; simp at hlt)
      refine ⟨b, o + k, ?_, fun j u hu => ?_⟩
      · rw [if_neg (by omega)]
        simp only [Option.map_some, Nat.mul_one]
        congr 1
        unfold Addr.add; split <;> simp_all
      · rw [List.getElem?_drop] at hu
        have := hc (k + j) u hu
        rw [Nat.add_assoc]
        exact this
  · intro g hg
    by_cases hc : cap = k
    · rw [if_pos hc] at hg
      cases a <;> exact hg
    · rw [if_neg hc] at hg
      cases a with
      | none => simp [Value.ownBlock] at hg
      | some x =>
        simp only [Option.map_some, Value.ownBlock] at hg ⊢
        rw [← hg]
        congr 1
        unfold Addr.add; split <;> rfl
/-- 'v[:k]'. -/
theorem slice_to {P : Program} (t e : TypeId) (ht : P.underlying t = some (.slice e)) (hz : ∀ w, (Go.sizeOf e).run P w = .ok 1 w) (kh : IntKind) (a : Option Addr) (cap k : Nat) (l : List UInt8) (w : World) (h : Reads w (.slice a l.length cap) l) (hk : k ≤ l.length) :
    ∃ a' c', (∀ W, (Instr.slice t (.slice a l.length cap) none (some (.int kh (k : Int))) none).run P W = .ok (.slice a' k c') W) ∧ Reads w (.slice a' k c') (l.take k) := by
  have ht' : P.underlying t = some (.slice (P.elem t)) := by simp [Program.elem, ht]
  have he : P.elem t = e := by simp [Program.elem, ht]
  obtain ⟨a0, cap0, hv, h2, h3, h4, h5⟩ := h
  injection hv with e1 e2 e3
  subst e1 e3
  have hl : (l.take k).length = k := by rw [List.length_take]; omega
  refine ⟨if cap = 0 then a else a.map (·.add 0), cap, fun W => ?_, ?_⟩
  · rw [run_slice_h W t _ _ _ ht' kh _ (by omega) (by omega), he, hz]
    simp [Result.andThen, sliced]
  · refine ⟨_, cap, by rw [hl], by omega, h3, ?_, ?_⟩
    · intro hn
      by_cases hc : cap = 0
      · exact hc
      · rw [if_neg hc] at hn
        have : a = none := by cases a <;> simp_all
        exact h4 this
    · intro hne
      have hne' : l ≠ [] := by intro h; subst h; simp at hne
      obtain ⟨b, o, rfl, hc⟩ := h5 hne'
      have hpos : 0 < l.length := List.length_pos_iff.2 hne'
      refine ⟨b, o, ?_, fun j u hu => ?_⟩
      · rw [if_neg (by omega)]
        simp [Addr.add]
      · have hj : j < k := by
          have := (List.getElem?_eq_some_iff.1 hu).1; omega
        rw [List.getElem?_take_of_lt hj] at hu
        exact hc j u hu
/-- 'string(v)'. -/
theorem string_of {P : Program} (t e : TypeId) (ht : P.underlying t = some (.slice e)) (u : TypeId) (he : P.underlying e = some (.int .u8)) (hu : P.underlying u = some .string) (v : Value) (l : List UInt8) (w : World) (h : Reads w v l) :
    (convert t u v).run P w = .ok (.string ⟨l.toArray⟩) w := by
  obtain ⟨a, cap, rfl, h2, h3, h4, h5⟩ := h
  cases a with
  | none =>
    have h0 : l = [] := List.eq_nil_of_length_eq_zero (by have := h4 rfl; omega)
    subst h0
    rw [run_convert_bytes_string w t u e _ _ _ ht he hu]
    simp [Conv.bytesToString]
    rfl
  | some a =>
    refine run_convert_bytes_back w t u e a cap l ht he hu fun j hj => ?_
    obtain ⟨b, o, hab, hc⟩ := h5 (by intro h; subst h; simp at hj)
    simp at hab
    subst hab
    have hadd : (⟨b, o, Option.none⟩ : Addr).add j = ⟨b, o + j, Option.none⟩ := by unfold Addr.add; split <;> simp_all
    rw [hadd]
    exact hc j l[j] (by simp)
/-- What a call leaves of a Reader. -/
def Rest (t : TypeId) (w : World) (p : Nat) (v : Value) (l : List UInt8) (bad : Bool) (w' : World) : Prop :=
  ∃ v', IsR t w' p v' l bad ∧ Kept [p] w w' ∧ Within v v'
theorem two_set0 {w : World} {b : Nat} {v u x : Value} {t : TypeId} (h : w.heap[b]? = some (.cells #[v, u] t (0, 0))) : (w.setCell ⟨b, 0, none⟩ x).heap[b]? = some (.cells #[x, u] t (0, 0)) := by
  have hlt := lt_of_block h
  have h' : w.heap[b] = .cells #[v, u] t (0, 0) := by simpa [Array.getElem?_eq_getElem hlt] using h
  show (w.heap.modify b _)[b]? = _
  rw [Array.getElem?_eq_getElem (by simpa using hlt), Array.getElem_modify_self, h']
  rfl
theorem two_set1 {w : World} {b : Nat} {v u x : Value} {t : TypeId} (h : w.heap[b]? = some (.cells #[v, u] t (0, 0))) : (w.setCell ⟨b, 1, none⟩ x).heap[b]? = some (.cells #[v, x] t (0, 0)) := by
  have hlt := lt_of_block h
  have h' : w.heap[b] = .cells #[v, u] t (0, 0) := by simpa [Array.getElem?_eq_getElem hlt] using h
  show (w.heap.modify b _)[b]? = _
  rw [Array.getElem?_eq_getElem (by simpa using hlt), Array.getElem_modify_self, h']
  rfl
/-- A Reader that has read on. -/
theorem rest_on {t : TypeId} {w : World} {p : Nat} {v v1 : Value} {l l1 : List UInt8} {bad : Bool} (hR : IsR t w p v l bad) (h1 : Reads w v1 l1) (hi : Within v v1) (hb : bad = true → l1 = []) : Rest t w p v l1 bad (w.setCell ⟨p, 0, none⟩ v1) := by
  have hne : v1.ownBlock ≠ some p := fun h => hR.apart (hi p h)
  have k : Kept [p] w (w.setCell ⟨p, 0, none⟩ v1) := (Kept.refl [p] w).setCell (.inl (by simp)) _
  exact ⟨v1, ⟨two_set0 hR.box, h1.kept k (fun g hg => by intro hm; simp at hm; subst hm; exact hne hg), hne, hb⟩, k, hi⟩
/-- A Reader that has become bad. -/
theorem rest_bad {t : TypeId} {w : World} {p : Nat} {v : Value} {l : List UInt8} {bad : Bool} (hR : IsR t w p v l bad) : Rest t w p v [] true ((w.setCell ⟨p, 0, none⟩ (.slice none 0 0)).setCell ⟨p, 1, none⟩ (.bool true)) :=
  ⟨.slice none 0 0, ⟨two_set1 (two_set0 hR.box), Reads.nil _, by simp [Value.ownBlock], fun _ => rfl⟩, ((Kept.refl [p] w).setCell (.inl (by simp)) _).setCell (.inl (by simp)) _, fun g hg => by simp [Value.ownBlock] at hg⟩
theorem Rest.trans {t : TypeId} {w w1 w2 : World} {p : Nat} {v v1 : Value} {l2 : List UInt8} {b2 : Bool} (k : Kept [p] w w1) (hn : Within v v1) (h2 : Rest t w1 p v1 l2 b2 w2) : Rest t w p v l2 b2 w2 := by
  obtain ⟨v2, hR, k2, n2⟩ := h2
  exact ⟨v2, hR, k.trans k2 (fun x hx => .inl hx), hn.trans n2⟩
/-- What Reader.Number answers, and leaves. -/
def rnum (l : List UInt8) (bad : Bool) : Nat × List UInt8 × Bool := if (dec l).2 = 0 then (0, [], true) else ((dec l).1, l.drop (dec l).2, bad)
/-- What Reader.Text answers, and leaves. -/
def rtext (l : List UInt8) (bad : Bool) : List UInt8 × List UInt8 × Bool :=
  if (rnum l bad).2.1.length < (rnum l bad).1 then ([], [], true)
  else ((rnum l bad).2.1.take (rnum l bad).1, (rnum l bad).2.1.drop (rnum l bad).1, (rnum l bad).2.2)
theorem rnum_lt (l : List UInt8) (bad : Bool) : (rnum l bad).1 < 18446744073709551616 := by
  unfold rnum; split
  · decide
  · exact dec_bound l
end Go.Proofs.YtpodoiichpnpjaaDoor
/-
  Lists of pieces: their bytes, and how they lie in memory. Nothing here speaks of the program.
-/
namespace Go.Proofs.YtpodoiichpnpjaaDoor
set_option maxRecDepth 100000
open Go.RowKit
/-- A piece: its kind, its number, its text. -/
structure PieceD where
  kind : Int
  n : Nat
  s : ByteArray
/-- A piece's bytes. -/
def encP (x : PieceD) : List UInt8 :=
  if x.kind = 1 then enc x.n else if x.kind = 2 then enc (fold (wrap64 (x.n : Int))) else enc x.s.size ++ x.s.data.toList
/-- A list's bytes. -/
def encAll (l : List PieceD) : List UInt8 := l.flatMap encP
/-- How much room a list asks for, at most. -/
def heavy : List PieceD → Nat
  | [] => 0
  | x :: r => x.s.size + 9 + heavy r
theorem encP_le (x : PieceD) : (encP x).length ≤ x.s.size + 9 := by
  unfold encP
  have h1 := enc_length x.n
  have h2 := enc_length (fold (wrap64 (x.n : Int)))
  have h3 := enc_length x.s.size
  have h4 : x.s.data.toList.length = x.s.size := by simp
  split
  · omega
  · split
    · omega
    · rw [List.length_append]; omega
theorem encAll_le (l : List PieceD) : (encAll l).length ≤ heavy l := by
  induction l with
  | nil => simp [encAll]
  | cons x r ih =>
    have := encP_le x
    simp only [encAll, List.flatMap_cons, List.length_append, heavy] at ih ⊢
    omega
theorem heavy_take (l : List PieceD) (k : Nat) (x : PieceD) (h : l[k]? = some x) : heavy (l.take k) + x.s.size + 9 ≤ heavy l := by
  induction l generalizing k with
  | nil => simp at h
  | cons y r ih =>
    cases k with
    | zero => simp at h; subst h; simp [heavy]
    | succ k =>
      have := ih k (by simpa using h)
      simp only [List.take_succ_cons, heavy]
      omega
theorem encAll_take (l : List PieceD) (k : Nat) (x : PieceD) (h : l[k]? = some x) : encAll (l.take (k + 1)) = encAll (l.take k) ++ encP x := by
  rw [List.take_add_one, h]
  simp [encAll]
theorem encAll_drop (l : List PieceD) (k : Nat) (x : PieceD) (h : l[k]? = some x) : encAll (l.drop k) = encP x ++ encAll (l.drop (k + 1)) := by
  obtain ⟨hlt, hx⟩ := List.getElem?_eq_some_iff.1 h
  rw [List.drop_eq_getElem_cons hlt, hx]
  simp [encAll]
/-- The slice v (three cells an element) reads as the pieces l. -/
def Holds (w : World) (v : Value) (l : List PieceD) : Prop :=
  ∃ a cap, v = .slice a l.length cap ∧ l.length ≤ cap ∧ cap ≤ maxLen ∧ (∀ x ∈ l, x.n < 18446744073709551616 ∧ -9223372036854775808 ≤ x.kind ∧ x.kind ≤ 9223372036854775807) ∧
    (l ≠ [] → ∃ b o, a = some ⟨b, o, none⟩ ∧ ∀ j x, l[j]? = some x → w.cell? ⟨b, o + j * 3, none⟩ = some (.int .i64 x.kind) ∧ w.cell? ⟨b, o + j * 3 + 1, none⟩ = some (.int .u64 (x.n : Int)) ∧ w.cell? ⟨b, o + j * 3 + 2, none⟩ = some (.string x.s))
theorem Holds.kept {w w' : World} {v : Value} {l : List PieceD} (h : Holds w v l) (k : Kept [] w w') : Holds w' v l := by
  obtain ⟨a, cap, rfl, h2, h3, h4, h5⟩ := h
  refine ⟨a, cap, rfl, h2, h3, h4, fun hl => ?_⟩
  obtain ⟨b, o, rfl, hc⟩ := h5 hl
  refine ⟨b, o, rfl, fun j x hx => ?_⟩
  obtain ⟨c0, c1, c2⟩ := hc j x hx
  rw [k.cell (World.block_lt_of_cell? w _ c0) (by simp), k.cell (World.block_lt_of_cell? w _ c1) (by simp), k.cell (World.block_lt_of_cell? w _ c2) (by simp)]
  exact ⟨c0, c1, c2⟩
theorem rnum_back (n : Nat) (h : n < 18446744073709551616) (rest : List UInt8) : rnum (enc n ++ rest) false = (n, rest, false) := by
  have hl := enc_length n
  unfold rnum
  rw [dec_enc n h rest, if_neg (by omega)]
  simp
theorem rtext_back (s : List UInt8) (h : s.length < 18446744073709551616) (rest : List UInt8) : rtext (enc s.length ++ (s ++ rest)) false = (s, rest, false) := by
  unfold rtext
  rw [rnum_back s.length h]
  simp
end Go.Proofs.YtpodoiichpnpjaaDoor
