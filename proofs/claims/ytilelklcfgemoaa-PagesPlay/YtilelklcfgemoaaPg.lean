/-
  Pages, over lists of bytes: a text's parts, what a block is read as, the writes of a text, and what lies on a disk behind them. Nothing here speaks of the program.
-/
import Derived.Test.YtilelklcfgemoaaDa
namespace Go.Proofs.Ytilelklcfgemoaa
set_option linter.unusedVariables false

/-- How many blocks n bytes take. -/
def bks (n : Nat) : Nat := max ((n + 237) / 238) 1
theorem bks_pos (n : Nat) : 0 < bks n := by unfold bks; omega
theorem bks_le {n : Nat} (h : n ≤ 20000) : bks n ≤ 85 := by unfold bks; omega
theorem lt_bks {n j : Nat} (h : 0 < j) : j < bks n ↔ 238 * j < n := by unfold bks; omega
theorem bks_last {n j : Nat} (h : j < bks n) : j + 1 = bks n ↔ n - 238 * j ≤ 238 := by unfold bks at *; omega
/-- A part's head, as numbers: how many bytes are left, with the turn's bit. -/
def hdN (t : Bool) (n : Nat) : Nat := n + if t = true then 32768 else 0
def hd (t : Bool) (n nx : Nat) : List UInt8 := [UInt8.ofNat (hdN t n / 256), UInt8.ofNat (hdN t n), UInt8.ofNat (nx / 256), UInt8.ofNat nx]
/-- What is sealed of a part. -/
def bodyP (t : Bool) (n nx : Nat) (l : List UInt8) : List UInt8 := hd t n nx ++ l
/-- What the part in the block i, of the text of that name, is sealed for. -/
def plc (nm i : Nat) : Nat := nm * 65536 + i
def blkP (t : Bool) (n nx nm i : Nat) (l : List UInt8) : List UInt8 := sealedL 3 (plc nm i) (bodyP t n nx l)
theorem bodyP_length (t : Bool) (n nx : Nat) (l : List UInt8) : (bodyP t n nx l).length = 4 + l.length := by
  unfold bodyP
  rw [List.length_append]; simp [hd]
theorem blkP_length (t : Bool) (n nx nm i : Nat) (l : List UInt8) (h : l.length ≤ 238) : (blkP t n nx nm i l).length = 256 := sealedL_length _ _ _ (by rw [bodyP_length]; omega)
instance (k : UInt8) (p : Nat) (B : List UInt8) : Decidable (Fits k p B) := by unfold Fits; infer_instance
/-- A part: its turn, how many bytes are left, the next block, its bytes. -/
abbrev Pt := Bool × Nat × Nat × List UInt8
/-- The number of the byte i of p. -/
def byteN (p : List UInt8) (i : Nat) : Nat := (p[i]?.getD 0).toNat
theorem byteN_lt (p : List UInt8) (i : Nat) : byteN p i < 256 := (p[i]?.getD 0).toNat_lt
def bodyOf (p : List UInt8) : Pt := (decide (32768 ≤ byteN p 0 * 256 + byteN p 1), (byteN p 0 * 256 + byteN p 1) % 32768, byteN p 2 * 256 + byteN p 3, p.drop 4)
/-- Is it a part? -/
def isPart (place : Nat) (B : List UInt8) : Prop := Fits 3 place B ∧ 4 ≤ (payloadOf B).length ∧ (bodyOf (payloadOf B)).2.1 ≤ 20000 ∧ (bodyOf (payloadOf B)).2.2.2.length = min (bodyOf (payloadOf B)).2.1 238
instance (p : Nat) (B : List UInt8) : Decidable (isPart p B) := by unfold isPart; infer_instance
def partOf (place : Nat) (B : List UInt8) : Pt := if isPart place B then bodyOf (payloadOf B) else (false, 0, 0, [])
set_option maxRecDepth 4000 in
theorem bodyOf_body (t : Bool) (n nx : Nat) (l : List UInt8) (h : n < 32768) (hx : nx < 65536) : bodyOf (bodyP t n nx l) = (t, n, nx, l) := by
  have e0 : byteN (bodyP t n nx l) 0 = hdN t n / 256 % 256 := by simp [byteN, bodyP, hd]
  have e1 : byteN (bodyP t n nx l) 1 = hdN t n % 256 := by simp [byteN, bodyP, hd]
  have e2 : byteN (bodyP t n nx l) 2 = nx / 256 % 256 := by simp [byteN, bodyP, hd]
  have e3 : byteN (bodyP t n nx l) 3 = nx % 256 := by simp [byteN, bodyP, hd]
  have e4 : (bodyP t n nx l).drop 4 = l := by simp [bodyP, hd]
  have hN : hdN t n < 65536 := by unfold hdN; cases t <;> simp <;> omega
  have eL : byteN (bodyP t n nx l) 0 * 256 + byteN (bodyP t n nx l) 1 = hdN t n := by rw [e0, e1]; omega
  unfold bodyOf
  rw [eL, e2, e3, e4]
  have ex : nx / 256 % 256 * 256 + nx % 256 = nx := by omega
  rw [ex]
  unfold hdN
  cases t
  · have : ¬ 32768 ≤ n := by omega
    simp [this]; omega
  · simp; omega
theorem plc_lt {nm i : Nat} (h1 : nm < 65536) (h2 : i < 65536) : plc nm i < 4294967296 := by unfold plc; omega
theorem isPart_blk (t : Bool) (n nx nm i : Nat) (l : List UInt8) (h : n ≤ 20000) (hx : nx < 65536) (hl : l.length = min n 238) : isPart (plc nm i) (blkP t n nx nm i l) ∧ partOf (plc nm i) (blkP t n nx nm i l) = (t, n, nx, l) := by
  have hb := bodyP_length t n nx l
  have hp : payloadOf (blkP t n nx nm i l) = bodyP t n nx l := sealedL_payload _ _ _ (by omega)
  have hi : isPart (plc nm i) (blkP t n nx nm i l) := by
    unfold isPart
    rw [hp, bodyOf_body t n nx l (by omega) hx]
    exact ⟨fits_sealed 3 _ _ (by omega), by omega, h, hl⟩
  refine ⟨hi, ?_⟩
  unfold partOf
  rw [if_pos hi, hp, bodyOf_body t n nx l (by omega) hx]
theorem not_part_other (t : Bool) (n nx nm i nm2 : Nat) (l : List UInt8) (hl : l.length ≤ 238) (h1 : nm < 65536) (h2 : i < 65536) (h3 : nm2 < 65536) (hne : nm2 ≠ nm) : ¬ isPart (plc nm2 i) (blkP t n nx nm i l) := fun h => by
  have hb := bodyP_length t n nx l
  have := (fits_other 3 3 (plc nm i) (plc nm2 i) _ (by omega) (plc_lt h1 h2) (plc_lt h3 h2) h.1).2
  unfold plc at this
  omega
theorem not_part_zs (p : Nat) : ¬ isPart p (zs 256) := fun h => by
  have h2 := congrArg (List.drop 8) h.1.2.2
  rw [sealedL_drop, zs_drop, show 256 - 8 = 247 + 1 from rfl, zs_succ] at h2
  unfold rest at h2
  injection h2 with h3
  exact absurd h3 (by decide)
theorem partOf_ok (p : Nat) (B : List UInt8) : (partOf p B).2.1 ≤ 20000 ∧ (partOf p B).2.2.1 < 65536 ∧ (partOf p B).2.2.2.length ≤ 238 := by
  unfold partOf
  split
  · rename_i h
    refine ⟨h.2.2.1, ?_, ?_⟩
    · show byteN _ 2 * 256 + byteN _ 3 < 65536
      have := byteN_lt (payloadOf B) 2
      have := byteN_lt (payloadOf B) 3
      omega
    · rw [h.2.2.2]; omega
  · exact ⟨by decide, by decide, by simp⟩

/-- The k-th chunk of a text. -/
def chk (l : List UInt8) (k : Nat) : List UInt8 := (l.drop (238 * k)).take 238
theorem chk_len (l : List UInt8) (k : Nat) : (chk l k).length = min (l.length - 238 * k) 238 := by unfold chk; rw [List.length_take, List.length_drop]; omega
theorem chk_take (l : List UInt8) (k : Nat) : l.take (238 * k) ++ chk l k = l.take (238 * (k + 1)) := by
  unfold chk
  rw [show 238 * (k + 1) = 238 * k + 238 by omega, List.take_add]
/-- The text's part number k, as a block. -/
def pblk (t : Bool) (nm : Nat) (bs : List Nat) (l : List UInt8) (k : Nat) : List UInt8 := blkP t (l.length - 238 * k) (bs.getD (k + 1) 0) nm (bs.getD k 0) (chk l k)
theorem pblk_len (t : Bool) (nm : Nat) (bs : List Nat) (l : List UInt8) (k : Nat) : (pblk t nm bs l k).length = 256 := blkP_length _ _ _ _ _ _ (by rw [chk_len]; omega)
/-- The text l of that name lies in the blocks bs. -/
structure Lies (b : Nat → List UInt8) (nm : Nat) (bs : List Nat) (l : List UInt8) : Prop where
  len : bs.length = bks l.length
  first : bs.head? = some nm
  long : l.length ≤ 20000
  small : ∀ x ∈ bs, x < 65536
  blocks : ∃ t, ∀ k, k < bs.length → b (bs.getD k 0) = pblk t nm bs l k
theorem getD_lt {bs : List Nat} (h : ∀ x ∈ bs, x < 65536) (k : Nat) : bs.getD k 0 < 65536 := by
  rw [List.getD_eq_getElem?_getD]
  by_cases hk : k < bs.length
  · rw [List.getElem?_eq_getElem hk]; exact h _ (List.getElem_mem _)
  · rw [List.getElem?_eq_none (by omega)]; decide
theorem getD_mem {bs : List Nat} {k : Nat} (h : k < bs.length) : bs.getD k 0 ∈ bs := by
  rw [List.getD_eq_getElem?_getD, List.getElem?_eq_getElem h]
  exact List.getElem_mem _
theorem pblk_part (t : Bool) (nm : Nat) (bs : List Nat) (l : List UInt8) (k : Nat) (hs : ∀ x ∈ bs, x < 65536) (hl : l.length ≤ 20000) :
    isPart (plc nm (bs.getD k 0)) (pblk t nm bs l k) ∧ partOf (plc nm (bs.getD k 0)) (pblk t nm bs l k) = (t, l.length - 238 * k, bs.getD (k + 1) 0, chk l k) :=
  isPart_blk t _ _ nm _ (chk l k) (by omega) (getD_lt hs _) (chk_len l k)
theorem Lies.congr {b b' : Nat → List UInt8} {nm : Nat} {bs : List Nat} {l : List UInt8} (h : Lies b nm bs l) (he : ∀ x ∈ bs, b' x = b x) : Lies b' nm bs l := by
  obtain ⟨t, ht⟩ := h.blocks
  exact ⟨h.len, h.first, h.long, h.small, t, fun k hk => by rw [he _ (getD_mem hk)]; exact ht k hk⟩

/-- The writes of a text, the last part first. -/
def wsOf (t : Bool) (nm : Nat) (bs : List Nat) (l : List UInt8) : Nat → List Wr
  | 0 => []
  | k + 1 => (bs.getD k 0, pblk t nm bs l k) :: wsOf t nm bs l k
theorem wsOf_length (t : Bool) (nm : Nat) (bs : List Nat) (l : List UInt8) : ∀ k, (wsOf t nm bs l k).length = k
  | 0 => rfl
  | k + 1 => by simp [wsOf, wsOf_length t nm bs l k]
theorem wsOf_mem (t : Bool) (nm : Nat) (bs : List Nat) (l : List UInt8) : ∀ k x, x ∈ wsOf t nm bs l k → ∃ j, j < k ∧ x = (bs.getD j 0, pblk t nm bs l j)
  | 0, x, h => by simp [wsOf] at h
  | k + 1, x, h => by
    simp only [wsOf, List.mem_cons] at h
    rcases h with rfl | h
    · exact ⟨k, by omega, rfl⟩
    · obtain ⟨j, h1, h2⟩ := wsOf_mem t nm bs l k x h
      exact ⟨j, by omega, h2⟩
theorem blk_snoc (ws : List Wr) (x : Wr) (i : Nat) : blk (ws ++ [x]) i = if x.1 = i then x.2 else blk ws i := by
  unfold blk
  rw [lastN_snoc]
  by_cases h : x.1 = i
  · rw [if_pos h, if_pos h, if_neg (by omega)]
    simp [List.getD_eq_getElem?_getD]
  · rw [if_neg h, if_neg h]
    by_cases h0 : lastN ws i = 0
    · rw [if_pos h0, if_pos h0]
    · rw [if_neg h0, if_neg h0]
      have := lastN_le ws i
      rw [List.getD_eq_getElem?_getD, List.getD_eq_getElem?_getD, List.getElem?_append_left (by omega)]
theorem blk_append_other (ws : List Wr) (i : Nat) : ∀ (vs : List Wr), (∀ x ∈ vs, x.1 ≠ i) → blk (ws ++ vs) i = blk ws i := by
  intro vs
  induction vs generalizing ws with
  | nil => intro _; simp
  | cons x t ih =>
    intro h
    rw [show ws ++ x :: t = (ws ++ [x]) ++ t by simp, ih _ (fun y hy => h y (by simp [hy])), blk_snoc, if_neg (h x (by simp))]
theorem getD_inj {bs : List Nat} (hn : bs.Nodup) {i j : Nat} (hi : i < bs.length) (hj : j < bs.length) (h : bs.getD i 0 = bs.getD j 0) : i = j := by
  rw [List.getD_eq_getElem?_getD, List.getD_eq_getElem?_getD, List.getElem?_eq_getElem hi, List.getElem?_eq_getElem hj] at h
  exact List.getElem_inj hn |>.1 h
theorem blk_wsOf (t : Bool) (nm : Nat) (bs : List Nat) (l : List UInt8) (hn : bs.Nodup) : ∀ (k : Nat) (ws : List Wr), k ≤ bs.length → ∀ j, j < k → blk (ws ++ wsOf t nm bs l k) (bs.getD j 0) = pblk t nm bs l j := by
  intro k
  induction k with
  | zero => intro ws _ j hj; omega
  | succ k ih =>
    intro ws hk j hj
    rw [wsOf, show ws ++ (bs.getD k 0, pblk t nm bs l k) :: wsOf t nm bs l k = (ws ++ [(bs.getD k 0, pblk t nm bs l k)]) ++ wsOf t nm bs l k by simp]
    by_cases h : j < k
    · exact ih _ (by omega) j h
    · have : j = k := by omega
      subst this
      rw [blk_append_other, blk_snoc, if_pos rfl]
      intro x hx
      obtain ⟨i, hi, rfl⟩ := wsOf_mem t nm bs l j x hx
      intro e
      have := getD_inj hn (by omega) (by omega) e
      omega
theorem lies_put (t : Bool) (nm : Nat) (bs : List Nat) (l : List UInt8) (ws : List Wr) (hn : bs.Nodup) (h1 : bs.length = bks l.length) (h2 : bs.head? = some nm) (h3 : l.length ≤ 20000) (h4 : ∀ x ∈ bs, x < 65536) : Lies (blk (ws ++ wsOf t nm bs l bs.length)) nm bs l :=
  ⟨h1, h2, h3, h4, t, fun k hk => blk_wsOf t nm bs l hn bs.length ws (Nat.le_refl _) k hk⟩
/-- Texts of whose blocks none is written stay. -/
theorem Lies.other {ws vs : List Wr} {nm : Nat} {bs : List Nat} {l : List UInt8} (h : Lies (blk ws) nm bs l) (hv : ∀ x ∈ vs, x.1 ∉ bs) : Lies (blk (ws ++ vs)) nm bs l :=
  h.congr fun x hx => blk_append_other ws x vs fun y hy e => hv y hy (e ▸ hx)

/-- Writes one behind the other, till one is lost. -/
def wrAll (s : St) : List Wr → Int × St
  | [] => (0, s)
  | x :: r => if wrE s (x.1 : Int) x.2.length = 0 then wrAll (wrS s (x.1 : Int) x.2) r else (wrE s (x.1 : Int) x.2.length, wrS s (x.1 : Int) x.2)
theorem wrS_ws (s : St) (i : Nat) (l : List UInt8) (h : wrE s (i : Int) l.length = 0) : wrS s (i : Int) l = { s with ws := s.ws ++ [(i, l)], fuse := if 0 < s.fuse then s.fuse - 1 else s.fuse } := by
  unfold wrE at h
  unfold wrS
  split at h
  · cases h
  · rename_i h1
    split at h
    · cases h
    · rename_i h2
      split at h
      · cases h
      · rename_i h3
        rw [if_neg h1, if_neg h2, if_neg h3]
        simp
theorem wrE_zero {s : St} (i : Nat) (l : List UInt8) (hd : s.down = false) (hi : i < s.nb) (hl : l.length = 256) : wrE s (i : Int) l.length = if s.fuse = 0 then 9 else 0 := by
  unfold wrE
  rw [if_neg (by simp [hd]), if_neg (by omega)]
theorem wrAll_ok : ∀ (r : List Wr) (s : St), s.down = false → (∀ x ∈ r, x.1 < s.nb ∧ x.2.length = 256) → (s.fuse < 0 ∨ (r.length : Int) ≤ s.fuse) →
    wrAll s r = (0, { s with ws := s.ws ++ r, fuse := if s.fuse < 0 then s.fuse else s.fuse - r.length })
  | [], s, _, _, _ => by simp [wrAll]
  | x :: r, s, hd, hx, hf => by
    have hx0 := hx x (by simp)
    have h0 : wrE s (x.1 : Int) x.2.length = 0 := by
      rw [wrE_zero x.1 x.2 hd hx0.1 hx0.2, if_neg]
      simp at hf
      omega
    rw [wrAll, if_pos h0, wrS_ws s x.1 x.2 h0]
    have hf' : (if 0 < s.fuse then s.fuse - 1 else s.fuse) < 0 ∨ (r.length : Int) ≤ (if 0 < s.fuse then s.fuse - 1 else s.fuse) := by
      simp only [List.length_cons] at hf
      split <;> omega
    rw [wrAll_ok r { s with ws := s.ws ++ [(x.1, x.2)], fuse := if 0 < s.fuse then s.fuse - 1 else s.fuse } hd (fun y hy => hx y (by simp [hy])) hf']
    simp only [List.length_cons]
    congr 2
    · simp
    · have : ¬ s.fuse = 0 := by
        simp only [List.length_cons] at hf
        omega
      simp only [List.length_cons] at hf
      by_cases hn : s.fuse < 0
      · have e1 : (if 0 < s.fuse then s.fuse - 1 else s.fuse) = s.fuse := if_neg (by omega)
        rw [e1, if_pos hn, if_pos hn]
      · have e1 : (if 0 < s.fuse then s.fuse - 1 else s.fuse) = s.fuse - 1 := if_pos (by omega)
        rw [e1, if_neg (by omega), if_neg hn]
        omega
theorem wrAll_lost : ∀ (r : List Wr) (s : St) (f : Nat), s.down = false → (∀ x ∈ r, x.1 < s.nb ∧ x.2.length = 256) → s.fuse = f → f < r.length →
    wrAll s r = (9, { s with ws := s.ws ++ r.take f, fuse := 0, down := true })
  | [], s, f, _, _, _, h => by simp at h
  | x :: r, s, f, hd, hx, hf, hlt => by
    have hx0 := hx x (by simp)
    have h0 := wrE_zero x.1 x.2 hd hx0.1 hx0.2
    cases f with
    | zero =>
      have hf : s.fuse = 0 := hf
      have h9 : wrE s (x.1 : Int) x.2.length = 9 := by rw [h0, if_pos hf]
      rw [wrAll, if_neg (by rw [h9]; decide), h9]
      unfold wrS
      rw [if_neg (by simp [hd]), if_neg (by omega), if_pos hf]
      simp
      exact hf
    | succ f =>
      have h00 : wrE s (x.1 : Int) x.2.length = 0 := by rw [h0, if_neg (by omega)]
      rw [wrAll, if_pos h00, wrS_ws s x.1 x.2 h00]
      rw [wrAll_lost r { s with ws := s.ws ++ [(x.1, x.2)], fuse := if 0 < s.fuse then s.fuse - 1 else s.fuse } f hd (fun y hy => hx y (by simp [hy])) (by show (if 0 < s.fuse then s.fuse - 1 else s.fuse) = (f : Int); split <;> omega) (by simp at hlt; omega)]
      simp
end Go.Proofs.Ytilelklcfgemoaa
