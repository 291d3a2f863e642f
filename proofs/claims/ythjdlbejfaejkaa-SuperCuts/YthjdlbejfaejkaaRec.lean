/-
  The record, over lists of bytes: its block, what a block is read as, what Open finds of a disk on which records were saved in turn. Nothing here speaks of the program.
-/
import Derived.Test.YthjdlbejfaejkaaDCut
namespace Go.Proofs.Ythjdlbejfaejkaa
set_option linter.unusedVariables false

theorem rnum_back (n : Nat) (h : n < 18446744073709551616) (rest : List UInt8) : rnum (enc n ++ rest) false = (n, rest, false) := by
  have hl := enc_length n
  unfold rnum
  rw [dec_enc n h rest, if_neg (by omega)]
  simp
theorem rtext_back (s : List UInt8) (h : s.length < 18446744073709551616) (rest : List UInt8) : rtext (enc s.length ++ (s ++ rest)) false = (s, rest, false) := by
  unfold rtext
  rw [rnum_back s.length h]
  simp

/-- A record: its generation and its payload. -/
abbrev Rc := Nat × List UInt8
/-- Which block a generation lies in. -/
def plc (g : Nat) : Nat := (g + 18446744073709551615) % 18446744073709551616 % 2
theorem plc_lt (g : Nat) : plc g < 2 := by unfold plc; omega
theorem plc_succ (k : Nat) (h : k < 18446744073709551615) : plc (k + 1) = k % 2 := by unfold plc; omega
/-- What is sealed of a record. -/
def bodyOf (g : Nat) (l : List UInt8) : List UInt8 := enc g ++ enc l.length ++ l
/-- A record's block. -/
def blkOf (g : Nat) (l : List UInt8) : List UInt8 := sealedL 1 (plc g) (bodyOf g l)
theorem bodyOf_length (g : Nat) (l : List UInt8) (h : l.length ≤ 200) : (bodyOf g l).length ≤ 242 := by
  have h1 := enc_length g
  have h2 := enc_length l.length
  unfold bodyOf
  rw [List.length_append, List.length_append]; omega
theorem blkOf_length (g : Nat) (l : List UInt8) (h : l.length ≤ 200) : (blkOf g l).length = 256 := sealedL_length _ _ _ (bodyOf_length g l h)

/-- What a sealed payload is read as. -/
def recOf (place : Nat) (p : List UInt8) : Rc :=
  if ((!(rtext (rnum p false).2.1 (rnum p false).2.2).2.2 && (rtext (rnum p false).2.1 (rnum p false).2.2).2.1.isEmpty) = true ∧ plc (rnum p false).1 = place ∧ (rtext (rnum p false).2.1 (rnum p false).2.2).1.length ≤ 200)
  then ((rnum p false).1, (rtext (rnum p false).2.1 (rnum p false).2.2).1) else (0, [])
/-- The block B of that place is read as r. -/
def Found (place : Nat) (B : List UInt8) (r : Rc) : Prop := Fits 1 place B ∧ r = recOf place (payloadOf B) ∨ ¬ Fits 1 place B ∧ r = (0, [])

theorem recOf_body (g : Nat) (l : List UInt8) (h : l.length ≤ 200) (hg : g < 18446744073709551616) : recOf (plc g) (bodyOf g l) = (g, l) := by
  have e1 : rnum (bodyOf g l) false = (g, enc l.length ++ (l ++ []), false) := by
    unfold bodyOf
    rw [List.append_assoc, rnum_back g hg, List.append_nil]
  have e2 := rtext_back l (by omega) []
  unfold recOf
  rw [e1]
  simp only
  rw [e2]
  simp [h]
theorem found_blk {g : Nat} {l : List UInt8} {r : Rc} (h : Found (plc g) (blkOf g l) r) (hl : l.length ≤ 200) (hg : g < 18446744073709551616) : r = (g, l) := by
  have hb := bodyOf_length g l hl
  rcases h with ⟨_, rfl⟩ | ⟨hn, _⟩
  · unfold blkOf
    rw [sealedL_payload _ _ _ hb]
    exact recOf_body g l hl hg
  · exact absurd (fits_sealed 1 (plc g) (bodyOf g l) hb) hn
theorem found_zs {p : Nat} {r : Rc} (h : Found p (zs 256) r) : r = (0, []) := by
  rcases h with ⟨h, _⟩ | ⟨_, h⟩
  · have h2 := congrArg (List.drop 8) h.2.2
    rw [sealedL_drop, zs_drop, show 256 - 8 = 247 + 1 from rfl, zs_succ] at h2
    unfold rest at h2
    injection h2 with h3
  · exact h
theorem recOf_ok (p : Nat) (q : List UInt8) : (recOf p q).1 < 18446744073709551616 ∧ (recOf p q).2.length ≤ 200 := by
  unfold recOf
  split
  · rename_i h; exact ⟨rnum_lt _ _, h.2.2⟩
  · exact ⟨by decide, by simp⟩
theorem found_ok {p : Nat} {B : List UInt8} {r : Rc} (h : Found p B r) : r.1 < 18446744073709551616 ∧ r.2.length ≤ 200 := by
  rcases h with ⟨_, rfl⟩ | ⟨_, rfl⟩
  · exact recOf_ok _ _
  · exact ⟨by decide, by simp⟩

/-- The greater of two, the first ahead of a tie. -/
def better (a b : Rc) : Rc := if a.1 < b.1 then b else a
/-- What Open finds in the two blocks. -/
def Opens (b0 b1 : List UInt8) (r : Rc) : Prop := ∃ r0 r1, Found 0 b0 r0 ∧ Found 1 b1 r1 ∧ r = better (better (0, []) r0) r1
theorem opens_ok {b0 b1 : List UInt8} {r : Rc} (h : Opens b0 b1 r) : r.1 < 18446744073709551616 ∧ r.2.length ≤ 200 := by
  obtain ⟨r0, r1, h0, h1, rfl⟩ := h
  have hz : ∀ a b : Rc, (a.1 < 18446744073709551616 ∧ a.2.length ≤ 200) → (b.1 < 18446744073709551616 ∧ b.2.length ≤ 200) → ((better a b).1 < 18446744073709551616 ∧ (better a b).2.length ≤ 200) := by
    intro a b ha hb
    unfold better
    split
    · exact hb
    · exact ha
  exact hz _ _ (hz _ _ ⟨by decide, by simp⟩ (found_ok h0)) (found_ok h1)

/-- The writes ws are those of the saves, one behind the other. -/
def Hist (ws : List Wr) (saves : List (List UInt8)) : Prop := ws.length = saves.length ∧ ∀ k l, saves[k]? = some l → ws[k]? = some (k % 2, blkOf (k + 1) l) ∧ l.length ≤ 200
theorem Hist.nil : Hist [] [] := ⟨rfl, fun k l h => by simp at h⟩
theorem Hist.snoc {ws : List Wr} {saves : List (List UInt8)} (h : Hist ws saves) (l : List UInt8) (hl : l.length ≤ 200) : Hist (ws ++ [(saves.length % 2, blkOf (saves.length + 1) l)]) (saves ++ [l]) := by
  refine ⟨by simp [h.1], fun k x hx => ?_⟩
  by_cases hk : k < saves.length
  · rw [List.getElem?_append_left hk] at hx
    rw [List.getElem?_append_left (by rw [h.1]; exact hk)]
    exact h.2 k x hx
  · have hlt := (List.getElem?_eq_some_iff.1 hx).1
    have hk2 : k = saves.length := by simp at hlt; omega
    subst hk2
    simp at hx
    subst hx
    rw [← h.1]
    simp [hl]
theorem Hist.take {ws : List Wr} {saves : List (List UInt8)} (h : Hist ws saves) (n : Nat) : Hist (ws.take n) (saves.take n) := by
  refine ⟨by simp [h.1], fun k l hx => ?_⟩
  have hk : k < n := by have := (List.getElem?_eq_some_iff.1 hx).1; simp at this; omega
  rw [List.getElem?_take_of_lt hk] at hx ⊢
  exact h.2 k l hx

/-- The last save, or nothing. -/
def lastS (saves : List (List UInt8)) : List UInt8 := (saves[saves.length - 1]?).getD []
theorem lastS_nil : lastS [] = [] := rfl
theorem lastS_snoc (saves : List (List UInt8)) (l : List UInt8) : lastS (saves ++ [l]) = l := by simp [lastS]

theorem better_zero (r : Rc) (h : r.1 = 0 → r.2 = []) : better (0, []) r = r := by
  unfold better
  split
  · rfl
  · rename_i hn
    have h0 : r.1 = 0 := by simp at hn; omega
    exact Prod.ext (by simp [h0]) (by simp [h h0])

/-- Of a disk on which there were just these saves, Open finds the last one. -/
theorem opens_hist {ws : List Wr} {saves : List (List UInt8)} {r : Rc} (h : Hist ws saves) (hn : saves.length ≤ 1000) (ho : Opens (blk ws 0) (blk ws 1) r) : r = (saves.length, lastS saves) := by
  obtain ⟨r0, r1, h0, h1, rfl⟩ := ho
  obtain ⟨hlen, hall⟩ := h
  have noneBehind : ∀ i, free ws i ws.length := fun i j x hj hx => by
    have := (List.getElem?_eq_some_iff.1 hx).1; omega
  match hs : saves.length with
  | 0 =>
    have hw : ws = [] := List.eq_nil_of_length_eq_zero (by omega)
    have hsv : saves = [] := List.eq_nil_of_length_eq_zero hs
    subst hw hsv
    rw [blk_none [] 0 (fun j x _ hx => by simp at hx)] at h0
    rw [blk_none [] 1 (fun j x _ hx => by simp at hx)] at h1
    rw [found_zs h0, found_zs h1]
    rfl
  | 1 =>
    obtain ⟨x0, hl0⟩ : ∃ x, saves[0]? = some x := ⟨saves[0], by simp⟩
    obtain ⟨hw0, hl⟩ := hall 0 _ hl0
    rw [blk_at ws 0 0 _ hw0 rfl (by have := noneBehind 0; rw [hlen, hs] at this; exact this)] at h0
    rw [blk_none ws 1 (fun j x _ hx => by
      have hj := (List.getElem?_eq_some_iff.1 hx).1
      have : j = 0 := by omega
      subst this
      rw [hw0] at hx
      simp at hx
      rw [← hx]; simp)] at h1
    have e0 : r0 = (1, x0) := found_blk (g := 1) h0 hl (by decide)
    rw [e0, found_zs h1]
    unfold lastS
    rw [hs, hl0]
    rfl
  | m + 2 =>
    obtain ⟨y1, hlm⟩ : ∃ x, saves[m + 1]? = some x := ⟨saves[m + 1]'(by omega), by simp⟩
    obtain ⟨y0, hlp⟩ : ∃ x, saves[m]? = some x := ⟨saves[m]'(by omega), by simp⟩
    obtain ⟨hw1, hl1⟩ := hall _ _ hlm
    obtain ⟨hw0, hl0⟩ := hall _ _ hlp
    have b1 := blk_at ws ((m + 1) % 2) (m + 1) _ hw1 rfl (by have := noneBehind ((m + 1) % 2); rw [hlen, hs] at this; exact this)
    have b0 := blk_at ws (m % 2) m _ hw0 rfl (fun j x hj hx => by
      have hj2 := (List.getElem?_eq_some_iff.1 hx).1
      have : j = m + 1 := by omega
      subst this
      rw [hw1] at hx
      simp at hx
      rw [← hx]
      show (m + 1) % 2 ≠ m % 2
      omega)
    have p1 : plc (m + 1 + 1) = (m + 1) % 2 := plc_succ _ (by omega)
    have p0 : plc (m + 1) = m % 2 := plc_succ _ (by omega)
    have hlast : lastS saves = y1 := by
      unfold lastS
      rw [hs, show m + 2 - 1 = m + 1 by omega, hlm]
      rfl
    rw [hlast]
    have g0 : m + 1 < 18446744073709551616 := by omega
    have g1 : m + 1 + 1 < 18446744073709551616 := by omega
    simp only at b1 b0
    rcases Nat.mod_two_eq_zero_or_one m with hm | hm
    · have hm1 : (m + 1) % 2 = 1 := by omega
      rw [hm] at b0 p0
      rw [hm1] at b1 p1
      rw [b0] at h0
      rw [b1] at h1
      have f0 : Found (plc (m + 1)) (blkOf (m + 1) y0) r0 := by rw [p0]; exact h0
      have f1 : Found (plc (m + 1 + 1)) (blkOf (m + 1 + 1) y1) r1 := by rw [p1]; exact h1
      rw [found_blk f0 hl0 g0, found_blk f1 hl1 g1, better_zero _ (fun h => by simp at h)]
      unfold better
      rw [if_pos (by show m + 1 < m + 1 + 1; omega)]
    · have hm1 : (m + 1) % 2 = 0 := by omega
      rw [hm] at b0 p0
      rw [hm1] at b1 p1
      rw [b1] at h0
      rw [b0] at h1
      have f0 : Found (plc (m + 1 + 1)) (blkOf (m + 1 + 1) y1) r0 := by rw [p1]; exact h0
      have f1 : Found (plc (m + 1)) (blkOf (m + 1) y0) r1 := by rw [p0]; exact h1
      rw [found_blk f0 hl1 g1, found_blk f1 hl0 g0, better_zero _ (fun h => by simp at h)]
      unfold better
      rw [if_neg (by show ¬ m + 1 + 1 < m + 1; omega)]

end Go.Proofs.Ythjdlbejfaejkaa
