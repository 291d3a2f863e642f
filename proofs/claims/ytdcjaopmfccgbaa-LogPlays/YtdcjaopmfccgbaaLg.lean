/-
  The log, over lists of bytes: a unit's blocks, what a block is read as, what is read of an area into which units were written. Nothing here speaks of the program.
-/
import Derived.Test.YtdcjaopmfccgbaaDCut
namespace Go.Proofs.Ytdcjaopmfccgbaa
set_option linter.unusedVariables false

/-- How many blocks n bytes take. -/
def bks (n : Nat) : Nat := (n + 232) / 233
/-- What is sealed of a part. -/
def bodyP (ep : Nat) (last : Bool) (l : List UInt8) : List UInt8 := be 8 ep ++ ((if last = true then 1 else 0) :: l)
/-- What the part in the disk's block i, of a unit that begins at st, is sealed for. -/
def plc (st i : Nat) : Nat := st * 65536 + i
def blkP (ep st i : Nat) (last : Bool) (l : List UInt8) : List UInt8 := sealedL 2 (plc st i) (bodyP ep last l)
theorem bodyP_length (ep : Nat) (last : Bool) (l : List UInt8) : (bodyP ep last l).length = 9 + l.length := by
  unfold bodyP
  rw [List.length_append, be_length, List.length_cons]; omega
theorem blkP_length (ep st i : Nat) (last : Bool) (l : List UInt8) (h : l.length ≤ 233) : (blkP ep st i last l).length = 256 := sealedL_length _ _ _ (by rw [bodyP_length]; omega)

/-- A number that lies highest byte first. -/
def unbe (x : Nat) (l : List UInt8) : Nat := l.foldl (fun y b => (y * 256 + b.toNat) % 18446744073709551616) x
theorem unbe_lt (l : List UInt8) : ∀ x, x < 18446744073709551616 → unbe x l < 18446744073709551616 := by
  induction l with
  | nil => intro x h; exact h
  | cons b t ih => intro x _; exact ih _ (Nat.mod_lt _ (by decide))
theorem unbe_append (x : Nat) (l m : List UInt8) : unbe x (l ++ m) = unbe (unbe x l) m := by simp [unbe]
theorem unbe_take (x : Nat) (l : List UInt8) (j : Nat) (u : UInt8) (hu : l[j]? = some u) : unbe x (l.take (j + 1)) = (unbe x (l.take j) * 256 + u.toNat) % 18446744073709551616 := by
  rw [List.take_add_one, hu, unbe_append]
  rfl
theorem unbe_be (k : Nat) : ∀ x n, x < 18446744073709551616 → unbe x (be k n) = (x * 256 ^ k + n % 256 ^ k) % 18446744073709551616 := by
  induction k with
  | zero => intro x n h; simp [be, unbe, Nat.mod_one]; omega
  | succ k ih =>
    intro x n h
    unfold be
    rw [unbe_append, ih x (n / 256) h]
    show ((x * 256 ^ k + n / 256 % 256 ^ k) % 18446744073709551616 * 256 + (UInt8.ofNat n).toNat) % 18446744073709551616 = _
    have e1 : n % 256 ^ (k + 1) = n % 256 + 256 * (n / 256 % 256 ^ k) := by rw [Nat.pow_succ, Nat.mul_comm, Nat.mod_mul]
    have e2 : (UInt8.ofNat n).toNat = n % 256 := by simp
    rw [e1, e2, Nat.pow_succ, Nat.add_mod, Nat.mul_mod, Nat.mod_mod, ← Nat.mul_mod, ← Nat.add_mod]
    congr 1
    generalize 256 ^ k = K
    rw [Nat.add_mul, Nat.mul_assoc]
    omega
theorem unbe_be8 (n : Nat) (h : n < 18446744073709551616) : unbe 0 (be 8 n) = n := by
  rw [unbe_be 8 0 n (by decide)]
  omega

instance (k : UInt8) (p : Nat) (B : List UInt8) : Decidable (Fits k p B) := by unfold Fits; infer_instance
/-- A part: its epoch, whether it is the last, its bytes. -/
abbrev Pt := Nat × Bool × List UInt8
def bodyOf (p : List UInt8) : Pt := (unbe 0 (p.take 8), (p[8]?.getD 0 == 1), p.drop 9)
/-- The part that lies in a block. -/
def partOf (place : Nat) (B : List UInt8) : Pt := if Fits 2 place B ∧ 9 < (payloadOf B).length then bodyOf (payloadOf B) else (0, false, [])
theorem bodyOf_body (ep : Nat) (last : Bool) (l : List UInt8) (h : ep < 18446744073709551616) : bodyOf (bodyP ep last l) = (ep, last, l) := by
  unfold bodyOf bodyP
  rw [take_len (be_length 8 ep), unbe_be8 ep h, List.getElem?_append_right (by rw [be_length]; omega), be_length, show 9 = 8 + 1 from rfl, ← List.drop_drop, drop_len (be_length 8 ep)]
  cases last <;> rfl
theorem partOf_blk (ep st i : Nat) (last : Bool) (l : List UInt8) (h : ep < 18446744073709551616) (hl : l.length ≤ 233) (hne : l ≠ []) : partOf (plc st i) (blkP ep st i last l) = (ep, last, l) := by
  have hb := bodyP_length ep last l
  have hp : 0 < l.length := List.length_pos_iff.2 hne
  unfold partOf blkP
  rw [sealedL_payload _ _ _ (by omega), if_pos ⟨fits_sealed 2 _ _ (by omega), by omega⟩]
  exact bodyOf_body ep last l h
theorem plc_lt {st i : Nat} (h1 : st < 65536) (h2 : i < 65536) : plc st i < 4294967296 := by unfold plc; omega
theorem partOf_other (ep st i s2 i2 : Nat) (last : Bool) (l : List UInt8) (hl : l.length ≤ 233) (h1 : st < 65536) (h2 : i < 65536) (h3 : s2 < 65536) (h4 : i2 < 65536) (hne : (partOf (plc s2 i2) (blkP ep st i last l)).2.2 ≠ []) : s2 = st ∧ i2 = i := by
  have hb := bodyP_length ep last l
  unfold partOf at hne
  split at hne
  · rename_i h
    have := (fits_other 2 2 (plc st i) (plc s2 i2) _ (by omega) (plc_lt h1 h2) (plc_lt h3 h4) h.1).2
    unfold plc at this
    omega
  · exact absurd rfl hne
theorem partOf_zs (p : Nat) : partOf p (zs 256) = (0, false, []) := by
  unfold partOf
  rw [if_neg]
  rintro ⟨h, _⟩
  have h2 := congrArg (List.drop 8) h.2.2
  rw [sealedL_drop, zs_drop, show 256 - 8 = 247 + 1 from rfl, zs_succ] at h2
  unfold rest at h2
  injection h2 with h3
  exact absurd h3 (by decide)
theorem partOf_ok (p : Nat) (B : List UInt8) : (partOf p B).1 < 18446744073709551616 ∧ (partOf p B).2.2.length ≤ 233 := by
  unfold partOf
  split
  · rename_i h
    refine ⟨unbe_lt _ _ (by decide), ?_⟩
    have h1 := h.1.2.1
    show ((payloadOf B).drop 9).length ≤ 233
    rw [List.length_drop]
    unfold payloadOf
    rw [List.length_take]
    omega
  · exact ⟨by decide, by simp⟩

/-- The j-th chunk of a unit. -/
def chk (l : List UInt8) (j : Nat) : List UInt8 := (l.drop (233 * j)).take 233
theorem chk_len (l : List UInt8) (j : Nat) : (chk l j).length ≤ 233 := by unfold chk; rw [List.length_take]; omega
theorem chk_ne {l : List UInt8} {j : Nat} (h : 233 * j < l.length) : chk l j ≠ [] := by
  intro e
  have := congrArg List.length e
  unfold chk at this
  rw [List.length_take, List.length_drop, List.length_nil] at this
  omega
theorem chk_take (l : List UInt8) (j : Nat) : l.take (233 * j) ++ chk l j = l.take (233 * (j + 1)) := by
  unfold chk
  rw [show 233 * (j + 1) = 233 * j + 233 by omega, List.take_add]
theorem bks_pos {n : Nat} (h : 0 < n) : 0 < bks n := by unfold bks; omega
theorem lt_bks {n j : Nat} : j < bks n ↔ 233 * j < n := by unfold bks; omega
/-- A unit's write number j. -/
def lastB (l : List UInt8) (j : Nat) : Bool := decide (l.length ≤ 233 * (j + 1))
def uw (fr ep st : Nat) (l : List UInt8) (j : Nat) : Wr := (fr + st + j, blkP ep st (fr + st + j) (lastB l j) (chk l j))
/-- Its first n writes. -/
def uws (fr ep st : Nat) (l : List UInt8) (n : Nat) : List Wr := (List.range n).map (uw fr ep st l)
theorem uws_succ (fr ep st : Nat) (l : List UInt8) (n : Nat) : uws fr ep st l (n + 1) = uws fr ep st l n ++ [uw fr ep st l n] := by simp [uws, List.range_succ]
theorem uws_length (fr ep st : Nat) (l : List UInt8) (n : Nat) : (uws fr ep st l n).length = n := by simp [uws]
theorem uws_take (fr ep st : Nat) (l : List UInt8) (n m : Nat) (h : m ≤ n) : (uws fr ep st l n).take m = uws fr ep st l m := by
  unfold uws
  rw [← List.map_take, List.take_range, Nat.min_eq_left h]

/-- What readUnit answers: n blocks are left, the next is the area's block at. -/
def rdU (b : Nat → List UInt8) (fr ep st : Nat) : Nat → Nat → List UInt8 → List UInt8
  | 0, _, _ => []
  | n + 1, i, acc => if (partOf (plc st (fr + i)) (b (fr + i))).1 ≠ ep ∨ (partOf (plc st (fr + i)) (b (fr + i))).2.2 = [] then [] else
      if (partOf (plc st (fr + i)) (b (fr + i))).2.1 = true then acc ++ (partOf (plc st (fr + i)) (b (fr + i))).2.2 else rdU b fr ep st n (i + 1) (acc ++ (partOf (plc st (fr + i)) (b (fr + i))).2.2)
/-- The unit l lies at st. -/
def UL (b : Nat → List UInt8) (fr ep st : Nat) (l : List UInt8) : Prop := ∀ j, j < bks l.length → b (fr + st + j) = (uw fr ep st l j).2
theorem rdU_unit (b : Nat → List UInt8) (fr ep st : Nat) (l : List UInt8) (he : ep < 18446744073709551616) (h : UL b fr ep st l) : ∀ n j, j < bks l.length → bks l.length ≤ j + n → rdU b fr ep st n (st + j) (l.take (233 * j)) = l := by
  intro n
  induction n with
  | zero => intro j h1 h2; omega
  | succ n ih =>
    intro j h1 h2
    have hb := h j h1
    have hj := lt_bks.1 h1
    unfold rdU
    rw [← Nat.add_assoc, hb]
    show (if (partOf _ (blkP _ _ _ _ _)).1 ≠ ep ∨ _ then _ else _) = l
    unfold uw
    simp only
    rw [partOf_blk ep st (fr + st + j) _ _ he (chk_len l j) (chk_ne hj)]
    simp only
    rw [if_neg (by simp [chk_ne hj]), chk_take]
    by_cases hl : l.length ≤ 233 * (j + 1)
    · rw [if_pos (by simp [lastB, hl]), List.take_of_length_le hl]
    · rw [if_neg (by simp [lastB]; omega), show st + j + 1 = st + (j + 1) by omega]
      exact ih (j + 1) (lt_bks.2 (by omega)) (by omega)
theorem rdU_none (b : Nat → List UInt8) (fr ep st : Nat) (ct : Nat) (h : ∀ i, st ≤ i → i < ct → ∀ e l, partOf (plc st (fr + i)) (b (fr + i)) = (e, true, l) → e = ep → l ≠ [] → False) : ∀ n i acc, st ≤ i → i + n ≤ ct → rdU b fr ep st n i acc = [] := by
  intro n
  induction n with
  | zero => intro i acc _ _; rfl
  | succ n ih =>
    intro i acc h1 h2
    have hh := h i h1 (by omega)
    unfold rdU
    generalize partOf (plc st (fr + i)) (b (fr + i)) = p at hh
    obtain ⟨e, la, l⟩ := p
    simp only
    split
    · rfl
    · rename_i hc
      have hc' := not_or.1 hc
      cases la with
      | true => exact (hh e l rfl (Decidable.byContradiction hc'.1) hc'.2).elim
      | false =>
        rw [if_neg (by simp)]
        exact ih (i + 1) _ (by omega) (by omega)

theorem blk_snoc (ws : List Wr) (x : Wr) (i : Nat) : blk (ws ++ [x]) i = if x.1 = i then x.2 else blk ws i := by
  unfold blk
  rw [lastN_snoc]
  by_cases h : x.1 = i
  · rw [if_pos h, if_pos h, if_neg (by omega), Nat.add_sub_cancel, List.getD_eq_getElem?_getD, List.getElem?_append_right (Nat.le_refl _), Nat.sub_self]
    rfl
  · rw [if_neg h, if_neg h]
    by_cases h0 : lastN ws i = 0
    · rw [if_pos h0, if_pos h0]
    · have := lastN_le ws i
      rw [if_neg h0, if_neg h0, List.getD_eq_getElem?_getD, List.getD_eq_getElem?_getD, List.getElem?_append_left (by omega)]
theorem blk_mem (ws : List Wr) (i : Nat) : blk ws i = zs 256 ∨ ∃ x ∈ ws, x.1 = i ∧ blk ws i = x.2 := by
  generalize hn : ws.length = n
  induction n generalizing ws with
  | zero =>
    have : ws = [] := List.eq_nil_of_length_eq_zero hn
    subst this
    exact .inl rfl
  | succ n ih =>
    obtain ⟨t, x, rfl⟩ : ∃ t x, ws = t ++ [x] := ⟨ws.dropLast, ws.getLast (by intro h; subst h; simp at hn), (List.dropLast_concat_getLast _).symm⟩
    rw [blk_snoc]
    by_cases h : x.1 = i
    · rw [if_pos h]
      exact .inr ⟨x, by simp, h, rfl⟩
    · rw [if_neg h]
      rcases ih t (by simp at hn; exact hn) with h1 | ⟨y, h1, h2, h3⟩
      · exact .inl h1
      · exact .inr ⟨y, by simp [h1], h2, h3⟩
theorem blk_uws_out (ws : List Wr) (fr ep st : Nat) (l : List UInt8) (i : Nat) : ∀ n, i < fr + st ∨ fr + st + n ≤ i → blk (ws ++ uws fr ep st l n) i = blk ws i := by
  intro n
  induction n with
  | zero => intro _; simp [uws]
  | succ n ih =>
    intro h
    rw [uws_succ, ← List.append_assoc, blk_snoc, if_neg (by show ¬ fr + st + n = i; omega)]
    exact ih (by omega)
theorem blk_uws_in (ws : List Wr) (fr ep st : Nat) (l : List UInt8) (j : Nat) : ∀ n, j < n → blk (ws ++ uws fr ep st l n) (fr + st + j) = (uw fr ep st l j).2 := by
  intro n
  induction n with
  | zero => intro h; omega
  | succ n ih =>
    intro h
    rw [uws_succ, ← List.append_assoc, blk_snoc]
    by_cases hj : j = n
    · subst hj
      rw [if_pos (show (uw fr ep st l j).1 = fr + st + j from rfl)]
    · rw [if_neg (by show ¬ fr + st + n = fr + st + j; omega)]
      exact ih (by omega)

/-- How many blocks units take. -/
def tot : List (List UInt8) → Nat
  | [] => 0
  | l :: t => bks l.length + tot t
theorem tot_append (a b : List (List UInt8)) : tot (a ++ b) = tot a + tot b := by
  induction a with
  | nil => simp [tot]
  | cons l t ih => simp only [List.cons_append, tot, ih]; omega
theorem tot_snoc (a : List (List UInt8)) (l : List UInt8) : tot (a ++ [l]) = tot a + bks l.length := by rw [tot_append]; simp [tot]
theorem tot_take_le (us : List (List UInt8)) (k : Nat) : tot (us.take k) ≤ tot us := by
  have := tot_append (us.take k) (us.drop k)
  rw [List.take_append_drop] at this
  omega
/-- The units lie one behind the other from st on. -/
def Lies (b : Nat → List UInt8) (fr ep : Nat) : Nat → List (List UInt8) → Prop
  | _, [] => True
  | st, l :: t => UL b fr ep st l ∧ Lies b fr ep (st + bks l.length) t
theorem Lies.snoc {b : Nat → List UInt8} {fr ep : Nat} {l : List UInt8} : ∀ {us : List (List UInt8)} {st : Nat}, Lies b fr ep st us → UL b fr ep (st + tot us) l → Lies b fr ep st (us ++ [l])
  | [], st, _, h => ⟨h, trivial⟩
  | x :: t, st, h, h2 => ⟨h.1, Lies.snoc h.2 (by rw [show st + bks x.length + tot t = st + tot (x :: t) by simp only [tot]; omega]; exact h2)⟩
theorem Lies.at {b : Nat → List UInt8} {fr ep : Nat} : ∀ {us : List (List UInt8)} {st : Nat}, Lies b fr ep st us → ∀ k l, us[k]? = some l → UL b fr ep (st + tot (us.take k)) l
  | [], st, _, k, l, h => by simp at h
  | x :: t, st, h, 0, l, hl => by
    simp at hl
    subst hl
    exact h.1
  | x :: t, st, h, k + 1, l, hl => by
    have := Lies.at h.2 k l (by simpa using hl)
    rw [show st + tot (List.take (k + 1) (x :: t)) = st + bks x.length + tot (t.take k) by simp only [List.take_succ_cons, tot]; omega]
    exact this
theorem Lies.congr {b b' : Nat → List UInt8} {fr ep : Nat} : ∀ {us : List (List UInt8)} {st : Nat}, Lies b fr ep st us → (∀ i, fr + st ≤ i → i < fr + st + tot us → b' i = b i) → Lies b' fr ep st us
  | [], st, _, _ => trivial
  | x :: t, st, h, hh => ⟨fun j hj => by rw [hh _ (by omega) (by simp only [tot]; omega)]; exact h.1 j hj, Lies.congr h.2 (fun i h1 h2 => hh i (by omega) (by simp only [tot]; omega))⟩

/-- A write that an earlier epoch has left, or this one: then ahead of used, or of a unit at used that has not come to its end. -/
def Old (ep used : Nat) (x : Wr) : Prop := ∃ e st la l, x.2 = blkP e st x.1 la l ∧ x.1 < 65536 ∧ st < 65536 ∧ e < 18446744073709551616 ∧ l ≠ [] ∧ l.length ≤ 233 ∧ (e < ep ∨ e = ep ∧ (st < used ∨ st = used ∧ la = false))
/-- In the area lie the units us of the epoch ep. -/
structure Ar (ws : List Wr) (fr ct ep : Nat) (us : List (List UInt8)) : Prop where
  old : ∀ x ∈ ws, Old ep (tot us) x
  lies : Lies (blk ws) fr ep 0 us
  room : tot us ≤ ct
  unit : ∀ l ∈ us, l ≠ [] ∧ l.length ≤ 60000
  area : fr + ct ≤ 65536
  epoch : ep < 18446744073709551616
theorem Ar.new (fr ct ep : Nat) (h : fr + ct ≤ 65536) (he : ep < 18446744073709551616) : Ar [] fr ct ep [] := ⟨by simp, trivial, Nat.zero_le _, by simp, h, he⟩
theorem Ar.read {ws : List Wr} {fr ct ep : Nat} {us : List (List UInt8)} (h : Ar ws fr ct ep us) (k : Nat) (l : List UInt8) (hl : us[k]? = some l) : rdU (blk ws) fr ep (tot (us.take k)) (ct - tot (us.take k)) (tot (us.take k)) [] = l := by
  have hu := h.lies.at k l hl
  rw [Nat.zero_add] at hu
  have hm := h.unit l (List.mem_of_getElem? hl)
  have hp := bks_pos (List.length_pos_iff.2 hm.1)
  have ht : tot (us.take k) + bks l.length ≤ tot us := by
    have h1 := tot_snoc (us.take k) l
    have h2 : us.take k ++ [l] = us.take (k + 1) := by rw [List.take_add_one, hl]; rfl
    rw [h2] at h1
    have := tot_take_le us (k + 1)
    omega
  have := rdU_unit (blk ws) fr ep _ l h.epoch hu (ct - tot (us.take k)) 0 hp (by have := h.room; omega)
  simpa using this
theorem Ar.ends {ws : List Wr} {fr ct ep : Nat} {us : List (List UInt8)} (h : Ar ws fr ct ep us) : rdU (blk ws) fr ep (tot us) (ct - tot us) (tot us) [] = [] := by
  refine rdU_none (blk ws) fr ep (tot us) ct ?_ _ _ _ (Nat.le_refl _) (by have := h.room; omega)
  intro i h1 h2 e l hp he hl
  have ha := h.area
  rcases blk_mem ws (fr + i) with hz | ⟨x, hx, hxi, hb⟩
  · rw [hz, partOf_zs] at hp
    injection hp with _ hp
    injection hp with hp
    cases hp
  · obtain ⟨e', st, la, l', ho, o1, o2, o3, o4, o5, o6⟩ := h.old x hx
    rw [hb, ho] at hp
    have hoth := partOf_other e' st x.1 (tot us) (fr + i) la l' o5 o2 o1 (by omega) (by omega) (by rw [hp]; exact hl)
    rw [hoth.1, hoth.2, partOf_blk e' st x.1 la l' o3 o5 o4] at hp
    injection hp with q1 q2
    injection q2 with q2 q3
    subst q2
    rcases o6 with o6 | ⟨_, o6 | ⟨_, o6⟩⟩
    · omega
    · omega
    · cases o6
theorem old_uw {fr ct ep st : Nat} {l : List UInt8} {j : Nat} (ha : fr + ct ≤ 65536) (he : ep < 18446744073709551616) (hr : st + bks l.length ≤ ct) (hj : j < bks l.length) {used : Nat} (hu : st < used ∨ st = used ∧ lastB l j = false) : Old ep used (uw fr ep st l j) :=
  ⟨ep, st, _, _, rfl, by show fr + st + j < 65536; omega, by omega, he, chk_ne (lt_bks.1 hj), chk_len l j, .inr ⟨rfl, hu⟩⟩
theorem Old.mono {ep u u' : Nat} {x : Wr} (h : Old ep u x) (hu : u < u') : Old ep u' x := by
  obtain ⟨e, st, la, l, h1, h2, h3, h4, h5, h6, h7⟩ := h
  exact ⟨e, st, la, l, h1, h2, h3, h4, h5, h6, by rcases h7 with h | ⟨h, h7⟩; exact .inl h; exact .inr ⟨h, .inl (by omega)⟩⟩
/-- A unit that has not come to its end. -/
theorem Ar.put {ws : List Wr} {fr ct ep : Nat} {us : List (List UInt8)} (h : Ar ws fr ct ep us) (l : List UInt8) (hr : tot us + bks l.length ≤ ct) (n : Nat) (hn : n < bks l.length) : Ar (ws ++ uws fr ep (tot us) l n) fr ct ep us := by
  refine ⟨fun x hx => ?_, h.lies.congr fun i h1 h2 => blk_uws_out ws fr ep (tot us) l i n (by omega), h.room, h.unit, h.area, h.epoch⟩
  rcases List.mem_append.1 hx with hx | hx
  · exact h.old x hx
  · simp only [uws, List.mem_map, List.mem_range] at hx
    obtain ⟨j, hj, rfl⟩ := hx
    refine old_uw h.area h.epoch hr (by omega) (.inr ⟨rfl, ?_⟩)
    have := lt_bks.1 (show j + 1 < bks l.length by omega)
    simp [lastB]
    omega
/-- A unit that has. -/
theorem Ar.done {ws : List Wr} {fr ct ep : Nat} {us : List (List UInt8)} (h : Ar ws fr ct ep us) (l : List UInt8) (hr : tot us + bks l.length ≤ ct) (hne : l ≠ []) (hl : l.length ≤ 60000) : Ar (ws ++ uws fr ep (tot us) l (bks l.length)) fr ct ep (us ++ [l]) := by
  have hp := bks_pos (List.length_pos_iff.2 hne)
  have ht := tot_snoc us l
  refine ⟨fun x hx => ?_, (h.lies.congr fun i h1 h2 => blk_uws_out ws fr ep (tot us) l i _ (by omega)).snoc fun j hj => ?_, by omega, fun x hx => ?_, h.area, h.epoch⟩
  · rcases List.mem_append.1 hx with hx | hx
    · exact (h.old x hx).mono (by omega)
    · simp only [uws, List.mem_map, List.mem_range] at hx
      obtain ⟨j, hj, rfl⟩ := hx
      exact old_uw h.area h.epoch hr hj (.inl (by omega))
  · rw [Nat.zero_add]
    exact blk_uws_in ws fr ep (tot us) l j _ hj
  · rcases List.mem_append.1 hx with hx | hx
    · exact h.unit x hx
    · simp at hx
      subst hx
      exact ⟨hne, hl⟩
/-- A later epoch. -/
theorem Ar.later {ws : List Wr} {fr ct ep : Nat} {us : List (List UInt8)} (h : Ar ws fr ct ep us) (ep' : Nat) (hlt : ep < ep') (he : ep' < 18446744073709551616) : Ar ws fr ct ep' [] := by
  refine ⟨fun x hx => ?_, trivial, Nat.zero_le _, by simp, h.area, he⟩
  obtain ⟨e, st, la, l, h1, h2, h3, h4, h5, h6, h7⟩ := h.old x hx
  exact ⟨e, st, la, l, h1, h2, h3, h4, h5, h6, .inl (by rcases h7 with h | ⟨h, _⟩ <;> omega)⟩
end Go.Proofs.Ytdcjaopmfccgbaa
