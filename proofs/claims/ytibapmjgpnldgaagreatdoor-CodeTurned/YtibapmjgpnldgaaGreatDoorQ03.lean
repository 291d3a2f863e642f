import Derived.IntWalk
import Derived.Test.YtibapmjgpnldgaaGreatDoorRows
import Derived.WalkLawsBesides
import Derived.WalkSpells
import Derived.Lib.Zigzag
import Derived.Lib.BitFns
import Derived.Test.YtibapmjgpnldgaaGreatDoorQ01
import Derived.Test.YtibapmjgpnldgaaGreatDoorQ02
/-
  Slices of bytes that are cut; a Reader behind a call. Nothing here speaks of the program.
-/
namespace Go.Proofs.YtibapmjgpnldgaaGreatDoor
set_option maxRecDepth 100000
open Go.RowKit
/-- The slice v1 lies where v lay, or nowhere. -/
def Within (v v1 : Value) : Prop := ∀ g, v1.ownBlock = some g → v.ownBlock = some g
theorem Within.refl (v : Value) : Within v v := fun _ h => h
theorem Within.trans {v v1 v2 : Value} (h : Within v v1) (k : Within v1 v2) : Within v v2 := fun g hg => h g (k g hg)
/-- 'v[k:]'. -/
theorem slice_from {P : Program} (t e : TypeId) (ht : P.underlying t = some (.slice e)) (hz : ∀ w, (Go.sizeOf e).run P w = .ok 1 w) (kl : IntKind) (a : Option Addr) (cap k : Nat) (l : List UInt8) (w : World) (h : Reads w (.slice a l.length cap) l) (hk : k ≤ l.length) :
    ∃ a' c', (∀ W, (Instr.slice t (.slice a l.length cap) (some (.int kl (k : Int))) none none).run P W = .ok (.slice a' (l.length - k) c') W) ∧ Reads w (.slice a' (l.length - k) c') (l.drop k) ∧ Within (.slice a l.length cap) (.slice a' (l.length - k) c') := by
  have ht' : P.underlying t = some (.slice (P.elem t)) := by simp [Program.elem, ht]
  have he : P.elem t = e := by simp [Program.elem, ht]
  obtain ⟨a0, cap0, hv, h2, h3, h4, h5⟩ := h
  injection hv with e1 e2 e3
  subst e1 e3
  refine ⟨if cap = k then a else a.map (·.add (k * 1)), cap - k, fun W => ?_, ?_, ?_⟩
  · rw [run_slice_l W t _ _ _ ht' kl _ (by omega) (by omega), he, hz]
    simp [Result.andThen, sliced]
  · refine ⟨_, cap - k, by rw [List.length_drop], by rw [List.length_drop]; omega, by omega, ?_, ?_⟩
    · intro hn
      by_cases hc : cap = k
      · omega
      · rw [if_neg hc] at hn
        have : a = none := by cases a <;> simp_all
        have := h4 this
        omega
    · intro hne
      have hlt : k < l.length := by
        rcases Nat.lt_or_ge k l.length with h | h
        · exact h
        · exact absurd (List.drop_eq_nil_of_le h) hne
      obtain ⟨b, o, rfl, hc⟩ := h5 (by intro h; subst h; simp at hlt)
      refine ⟨b, o + k, ?_, fun j u hu => ?_⟩
      · rw [if_neg (by omega)]
        simp only [Option.map_some, Nat.mul_one]
        congr 1
        unfold Addr.add; split <;> simp_all
      · rw [List.getElem?_drop] at hu
        have := hc (k + j) u hu
        rw [Nat.add_assoc]
        exact this
  · intro g hg
    by_cases hc : cap = k
    · rw [if_pos hc] at hg
      cases a <;> exact hg
    · rw [if_neg hc] at hg
      cases a with
      | none => simp [Value.ownBlock] at hg
      | some x =>
        simp only [Option.map_some, Value.ownBlock] at hg ⊢
        rw [← hg]
        congr 1
        unfold Addr.add; split <;> rfl
/-- 'v[:k]'. -/
theorem slice_to {P : Program} (t e : TypeId) (ht : P.underlying t = some (.slice e)) (hz : ∀ w, (Go.sizeOf e).run P w = .ok 1 w) (kh : IntKind) (a : Option Addr) (cap k : Nat) (l : List UInt8) (w : World) (h : Reads w (.slice a l.length cap) l) (hk : k ≤ l.length) :
    ∃ a' c', (∀ W, (Instr.slice t (.slice a l.length cap) none (some (.int kh (k : Int))) none).run P W = .ok (.slice a' k c') W) ∧ Reads w (.slice a' k c') (l.take k) := by
  have ht' : P.underlying t = some (.slice (P.elem t)) := by simp [Program.elem, ht]
  have he : P.elem t = e := by simp [Program.elem, ht]
  obtain ⟨a0, cap0, hv, h2, h3, h4, h5⟩ := h
  injection hv with e1 e2 e3
  subst e1 e3
  have hl : (l.take k).length = k := by rw [List.length_take]; omega
  refine ⟨if cap = 0 then a else a.map (·.add 0), cap, fun W => ?_, ?_⟩
  · rw [run_slice_h W t _ _ _ ht' kh _ (by omega) (by omega), he, hz]
    simp [Result.andThen, sliced]
  · refine ⟨_, cap, by rw [hl], by omega, h3, ?_, ?_⟩
    · intro hn
      by_cases hc : cap = 0
      · exact hc
      · rw [if_neg hc] at hn
        have : a = none := by cases a <;> simp_all
        exact h4 this
    · intro hne
      have hne' : l ≠ [] := by intro h; subst h; simp at hne
      obtain ⟨b, o, rfl, hc⟩ := h5 hne'
      have hpos : 0 < l.length := List.length_pos_iff.2 hne'
      refine ⟨b, o, ?_, fun j u hu => ?_⟩
      · rw [if_neg (by omega)]
        simp [Addr.add]
      · have hj : j < k := by
          have := (List.getElem?_eq_some_iff.1 hu).1; omega
        rw [List.getElem?_take_of_lt hj] at hu
        exact hc j u hu
/-- 'string(v)'. -/
theorem string_of {P : Program} (t e : TypeId) (ht : P.underlying t = some (.slice e)) (u : TypeId) (he : P.underlying e = some (.int .u8)) (hu : P.underlying u = some .string) (v : Value) (l : List UInt8) (w : World) (h : Reads w v l) :
    (convert t u v).run P w = .ok (.string ⟨l.toArray⟩) w := by
  obtain ⟨a, cap, rfl, h2, h3, h4, h5⟩ := h
  cases a with
  | none =>
    have h0 : l = [] := List.eq_nil_of_length_eq_zero (by have := h4 rfl; omega)
    subst h0
    rw [run_convert_bytes_string w t u e _ _ _ ht he hu]
    simp [Conv.bytesToString]
    rfl
  | some a =>
    refine run_convert_bytes_back w t u e a cap l ht he hu fun j hj => ?_
    obtain ⟨b, o, hab, hc⟩ := h5 (by intro h; subst h; simp at hj)
    simp at hab
    subst hab
    have hadd : (⟨b, o, Option.none⟩ : Addr).add j = ⟨b, o + j, Option.none⟩ := by unfold Addr.add; split <;> simp_all
    rw [hadd]
    exact hc j l[j] (by simp)
/-- What a call leaves of a Reader. -/
def Rest (t : TypeId) (w : World) (p : Nat) (v : Value) (l : List UInt8) (bad : Bool) (w' : World) : Prop :=
  ∃ v', IsR t w' p v' l bad ∧ Kept [p] w w' ∧ Within v v'
theorem two_set0 {w : World} {b : Nat} {v u x : Value} {t : TypeId} (h : w.heap[b]? = some (.cells #[v, u] t (0, 0))) : (w.setCell ⟨b, 0, none⟩ x).heap[b]? = some (.cells #[x, u] t (0, 0)) := by
  have hlt := lt_of_block h
  have h' : w.heap[b] = .cells #[v, u] t (0, 0) := by simpa [Array.getElem?_eq_getElem hlt] using h
  show (w.heap.modify b _)[b]? = _
  rw [Array.getElem?_eq_getElem (by simpa using hlt), Array.getElem_modify_self, h']
  rfl
theorem two_set1 {w : World} {b : Nat} {v u x : Value} {t : TypeId} (h : w.heap[b]? = some (.cells #[v, u] t (0, 0))) : (w.setCell ⟨b, 1, none⟩ x).heap[b]? = some (.cells #[v, x] t (0, 0)) := by
  have hlt := lt_of_block h
  have h' : w.heap[b] = .cells #[v, u] t (0, 0) := by simpa [Array.getElem?_eq_getElem hlt] using h
  show (w.heap.modify b _)[b]? = _
  rw [Array.getElem?_eq_getElem (by simpa using hlt), Array.getElem_modify_self, h']
  rfl
/-- A Reader that has read on. -/
theorem rest_on {t : TypeId} {w : World} {p : Nat} {v v1 : Value} {l l1 : List UInt8} {bad : Bool} (hR : IsR t w p v l bad) (h1 : Reads w v1 l1) (hi : Within v v1) (hb : bad = true → l1 = []) : Rest t w p v l1 bad (w.setCell ⟨p, 0, none⟩ v1) := by
  have hne : v1.ownBlock ≠ some p := fun h => hR.apart (hi p h)
  have k : Kept [p] w (w.setCell ⟨p, 0, none⟩ v1) := (Kept.refl [p] w).setCell (.inl (by simp)) _
  exact ⟨v1, ⟨two_set0 hR.box, h1.kept k (fun g hg => by intro hm; simp at hm; subst hm; exact hne hg), hne, hb⟩, k, hi⟩
/-- A Reader that has become bad. -/
theorem rest_bad {t : TypeId} {w : World} {p : Nat} {v : Value} {l : List UInt8} {bad : Bool} (hR : IsR t w p v l bad) : Rest t w p v [] true ((w.setCell ⟨p, 0, none⟩ (.slice none 0 0)).setCell ⟨p, 1, none⟩ (.bool true)) :=
  ⟨.slice none 0 0, ⟨two_set1 (two_set0 hR.box), Reads.nil _, by simp [Value.ownBlock], fun _ => rfl⟩, ((Kept.refl [p] w).setCell (.inl (by simp)) _).setCell (.inl (by simp)) _, fun g hg => by simp [Value.ownBlock] at hg⟩
theorem Rest.trans {t : TypeId} {w w1 w2 : World} {p : Nat} {v v1 : Value} {l2 : List UInt8} {b2 : Bool} (k : Kept [p] w w1) (hn : Within v v1) (h2 : Rest t w1 p v1 l2 b2 w2) : Rest t w p v l2 b2 w2 := by
  obtain ⟨v2, hR, k2, n2⟩ := h2
  exact ⟨v2, hR, k.trans k2 (fun x hx => .inl hx), hn.trans n2⟩
/-- What Reader.Number answers, and leaves. -/
def rnum (l : List UInt8) (bad : Bool) : Nat × List UInt8 × Bool := if (dec l).2 = 0 then (0, [], true) else ((dec l).1, l.drop (dec l).2, bad)
/-- What Reader.Text answers, and leaves. -/
def rtext (l : List UInt8) (bad : Bool) : List UInt8 × List UInt8 × Bool :=
  if (rnum l bad).2.1.length < (rnum l bad).1 then ([], [], true)
  else ((rnum l bad).2.1.take (rnum l bad).1, (rnum l bad).2.1.drop (rnum l bad).1, (rnum l bad).2.2)
theorem rnum_lt (l : List UInt8) (bad : Bool) : (rnum l bad).1 < 18446744073709551616 := by
  unfold rnum; split
  · decide
  · exact dec_bound l
end Go.Proofs.YtibapmjgpnldgaaGreatDoor
/-
  Lists of pieces: their bytes, and how they lie in memory. Nothing here speaks of the program.
-/
namespace Go.Proofs.YtibapmjgpnldgaaGreatDoor
set_option maxRecDepth 100000
open Go.RowKit
/-- A piece: its kind, its number, its text. -/
structure PieceD where
  kind : Int
  n : Nat
  s : ByteArray
/-- A piece's bytes. -/
def encP (x : PieceD) : List UInt8 :=
  if x.kind = 1 then enc x.n else if x.kind = 2 then enc (fold (wrap64 (x.n : Int))) else enc x.s.size ++ x.s.data.toList
/-- A list's bytes. -/
def encAll (l : List PieceD) : List UInt8 := l.flatMap encP
/-- How much room a list asks for, at most. -/
def heavy : List PieceD → Nat
  | [] => 0
  | x :: r => x.s.size + 9 + heavy r
theorem encP_le (x : PieceD) : (encP x).length ≤ x.s.size + 9 := by
  unfold encP
  have h1 := enc_length x.n
  have h2 := enc_length (fold (wrap64 (x.n : Int)))
  have h3 := enc_length x.s.size
  have h4 : x.s.data.toList.length = x.s.size := by simp
  split
  · omega
  · split
    · omega
    · rw [List.length_append]; omega
theorem encAll_le (l : List PieceD) : (encAll l).length ≤ heavy l := by
  induction l with
  | nil => simp [encAll]
  | cons x r ih =>
    have := encP_le x
    simp only [encAll, List.flatMap_cons, List.length_append, heavy] at ih ⊢
    omega
theorem heavy_take (l : List PieceD) (k : Nat) (x : PieceD) (h : l[k]? = some x) : heavy (l.take k) + x.s.size + 9 ≤ heavy l := by
  induction l generalizing k with
  | nil => simp at h
  | cons y r ih =>
    cases k with
    | zero => simp at h; subst h; simp [heavy]
    | succ k =>
      have := ih k (by simpa using h)
      simp only [List.take_succ_cons, heavy]
      omega
theorem encAll_take (l : List PieceD) (k : Nat) (x : PieceD) (h : l[k]? = some x) : encAll (l.take (k + 1)) = encAll (l.take k) ++ encP x := by
  rw [List.take_add_one, h]
  simp [encAll]
theorem encAll_drop (l : List PieceD) (k : Nat) (x : PieceD) (h : l[k]? = some x) : encAll (l.drop k) = encP x ++ encAll (l.drop (k + 1)) := by
  obtain ⟨hlt, hx⟩ := List.getElem?_eq_some_iff.1 h
  rw [List.drop_eq_getElem_cons hlt, hx]
  simp [encAll]
/-- The slice v (three cells an element) reads as the pieces l. -/
def Holds (w : World) (v : Value) (l : List PieceD) : Prop :=
  ∃ a cap, v = .slice a l.length cap ∧ l.length ≤ cap ∧ cap ≤ maxLen ∧ (∀ x ∈ l, x.n < 18446744073709551616 ∧ -9223372036854775808 ≤ x.kind ∧ x.kind ≤ 9223372036854775807) ∧
    (l ≠ [] → ∃ b o, a = some ⟨b, o, none⟩ ∧ ∀ j x, l[j]? = some x → w.cell? ⟨b, o + j * 3, none⟩ = some (.int .i64 x.kind) ∧ w.cell? ⟨b, o + j * 3 + 1, none⟩ = some (.int .u64 (x.n : Int)) ∧ w.cell? ⟨b, o + j * 3 + 2, none⟩ = some (.string x.s))
theorem Holds.kept {w w' : World} {v : Value} {l : List PieceD} (h : Holds w v l) (k : Kept [] w w') : Holds w' v l := by
  obtain ⟨a, cap, rfl, h2, h3, h4, h5⟩ := h
  refine ⟨a, cap, rfl, h2, h3, h4, fun hl => ?_⟩
  obtain ⟨b, o, rfl, hc⟩ := h5 hl
  refine ⟨b, o, rfl, fun j x hx => ?_⟩
  obtain ⟨c0, c1, c2⟩ := hc j x hx
  rw [k.cell (World.block_lt_of_cell? w _ c0) (by simp), k.cell (World.block_lt_of_cell? w _ c1) (by simp), k.cell (World.block_lt_of_cell? w _ c2) (by simp)]
  exact ⟨c0, c1, c2⟩
theorem rnum_back (n : Nat) (h : n < 18446744073709551616) (rest : List UInt8) : rnum (enc n ++ rest) false = (n, rest, false) := by
  have hl := enc_length n
  unfold rnum
  rw [dec_enc n h rest, if_neg (by omega)]
  simp
theorem rtext_back (s : List UInt8) (h : s.length < 18446744073709551616) (rest : List UInt8) : rtext (enc s.length ++ (s ++ rest)) false = (s, rest, false) := by
  unfold rtext
  rw [rnum_back s.length h]
  simp
end Go.Proofs.YtibapmjgpnldgaaGreatDoor
/-
  The small functions of the codec: what fold, unfold, NewWriter and bits.Len64 do.
-/
namespace Go.Proofs.YtibapmjgpnldgaaGreatDoor
set_option maxRecDepth 100000
open Go.RowKit
theorem ret_int {k : IntKind} {a b : Int} (h : a = b) : Ending.returned (.int k a) = .returned (.int k b) := by rw [h]
set_option maxHeartbeats 400000 in
theorem new_w (w : World) : Calls Tryz.prog 16 #[] w fun e w' => e = .returned (.pointer (some ⟨w.heap.size, 0, none⟩)) ∧ w' = w.alloc (.cells #[.slice none 0 0] 88) := by
  go_enter Tryz.func16, Tryz.ntmps16
  go_wp2
  go_ret
  exact ⟨rfl, rfl⟩
theorem zigzag_eq (z : Int) : Lib.zigzag z = fold z := by unfold Lib.zigzag fold; split <;> split <;> omega
set_option maxHeartbeats 400000 in
theorem fold_any (z : Int) (w : World) (h1 : -9223372036854775808 ≤ z) (h2 : z ≤ 9223372036854775807) : Calls Tryz.prog 36 #[.int .i64 z] w fun e w' => e = .returned (.int .u64 (fold z : Nat)) ∧ w = w' := by
  have hs : IntKind.u64.signed = false := rfl
  by_cases h : z < 0
  · go_enter Tryz.func36, Tryz.ntmps36
    go_wp2
    go_ret
    exact ⟨ret_int (by rw [← zigzag_eq]; exact Lib.zigzag_neg h1 h), rfl⟩
  · go_enter Tryz.func36, Tryz.ntmps36
    go_wp2
    go_ret
    exact ⟨ret_int (by unfold fold; split <;> omega), rfl⟩
set_option maxHeartbeats 400000 in
theorem unfold_any (n : Nat) (w : World) (h2 : n < 18446744073709551616) : Calls Tryz.prog 67 #[.int .u64 (n : Int)] w fun e w' => e = .returned (.int .i64 (unfold n)) ∧ w = w' := by
  have hs : IntKind.i64.signed = true := rfl
  have hn := Lib.i64_not (n / 2) (by omega)
  have HN : Hid (bits .xor .i64 (-1) ((n / 2 : Nat) : Int) = -((n / 2 : Nat) : Int) - 1) := hn
  clear hn
  by_cases h : n % 2 = 1
  · have hb : ((n : Int) % 2 == 1) = true := by simp; omega
    go_enter Tryz.func67, Tryz.ntmps67
    go_wp2
    go_ret
    exact ⟨ret_int (by unfold YtibapmjgpnldgaaGreatDoor.unfold; rw [if_pos h, ← HN.out]; rfl), rfl⟩
  · have hb : ((n : Int) % 2 == 1) = false := by simp; omega
    go_enter Tryz.func67, Tryz.ntmps67
    go_wp2
    go_ret
    exact ⟨ret_int (by unfold YtibapmjgpnldgaaGreatDoor.unfold; rw [if_neg h]; rfl), rfl⟩
theorem len8_range (b : Int) (h0 : 1 ≤ b) (h1 : b ≤ 255) : 1 ≤ Lib.len8 b ∧ Lib.len8 b ≤ 8 := by
  have all : ∀ n : Fin 256, 1 ≤ n.val → 1 ≤ Lib.len8 (n.val : Int) ∧ Lib.len8 (n.val : Int) ≤ 8 := by decide +kernel
  have := all ⟨b.toNat, by omega⟩ (by simp; omega)
  have e : ((b.toNat : Nat) : Int) = b := by omega
  simp only [e] at this
  exact this
end Go.Proofs.YtibapmjgpnldgaaGreatDoor
