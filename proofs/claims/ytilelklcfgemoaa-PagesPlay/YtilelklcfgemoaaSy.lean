/-
  A disk and its Pages beside the caller's own memory: the calls in the words of the texts.
-/
import Derived.Test.YtilelklcfgemoaaFr
namespace Go.Proofs.Ytilelklcfgemoaa
open Go.RowKit
set_option linter.unusedVariables false

/-- A text that is there: its name, its blocks, its bytes. -/
abbrev Ent := Nat × List Nat × List UInt8
def ets (L : List Ent) : List (Nat × List Nat) := L.map fun x => (x.1, x.2.1)
def bls (L : List Ent) : List Nat := L.flatMap fun x => x.2.1
theorem ets_names (L : List Ent) : (ets L).map (·.1) = L.map (·.1) := by simp [ets]
theorem bls_append (A B : List Ent) : bls (A ++ B) = bls A ++ bls B := by simp [bls]
theorem bls_one (x : Ent) : bls [x] = x.2.1 := by simp [bls]
theorem bls_cons (x : Ent) (B : List Ent) : bls (x :: B) = x.2.1 ++ bls B := by simp [bls]
theorem mem_bls {L : List Ent} {b : Nat} : b ∈ bls L ↔ ∃ x ∈ L, b ∈ x.2.1 := by simp [bls]
/-- The texts lie on the disk; their blocks and the free ones are the area, each once. -/
structure Okp (s : St) (fr ct : Nat) (L : List Ent) (fl : List Nat) : Prop where
  lies : ∀ x ∈ L, Lies (blk s.ws) x.1 x.2.1 x.2.2
  perm : (bls L ++ fl).Perm (List.range' fr ct)
  area : fr + ct ≤ s.nb
  one : 1 ≤ ct
  nb : s.nb ≤ 65536
section
variable {s : St} {fr ct : Nat} {L : List Ent} {fl : List Nat}
theorem Okp.nodup (h : Okp s fr ct L fl) : (bls L ++ fl).Nodup := (h.perm.nodup_iff).2 (List.nodup_range')
theorem Okp.mem (h : Okp s fr ct L fl) {x : Nat} (hx : x ∈ bls L ++ fl) : fr ≤ x ∧ x < fr + ct := by
  have := h.perm.mem_iff.1 hx
  rw [List.mem_range'_1] at this
  exact this
theorem Okp.length (h : Okp s fr ct L fl) : (bls L).length + fl.length = ct := by
  have := h.perm.length_eq
  simpa using this
theorem Okp.self (h : Okp s fr ct L fl) {x : Ent} (hx : x ∈ L) : x.1 ∈ x.2.1 := List.mem_of_mem_head? (h.lies x hx).first
theorem len_bls : ∀ (L : List Ent), (∀ x ∈ L, x.2.1 ≠ []) → L.length ≤ (bls L).length
  | [], _ => by simp
  | x :: r, h => by
    have h1 := len_bls r fun y hy => h y (by simp [hy])
    have h2 := List.length_pos_iff.2 (h x (by simp))
    rw [bls_cons, List.length_append, List.length_cons]
    omega
theorem Okp.few (h : Okp s fr ct L fl) : L.length + fl.length ≤ ct := by
  have h1 := h.length
  have h2 := len_bls L fun x hx e => by have := h.self hx; rw [e] at this; simp at this
  omega
theorem Okp.pair (h : Okp s fr ct L fl) : L.Pairwise fun x y => ∀ a ∈ x.2.1, ∀ b ∈ y.2.1, a ≠ b := by
  have h1 := (List.nodup_append.1 h.nodup).1
  unfold bls at h1
  exact (List.pairwise_flatMap.1 h1).2
theorem Okp.each (h : Okp s fr ct L fl) {x : Ent} (hx : x ∈ L) : x.2.1.Nodup := by
  have h1 := (List.nodup_append.1 h.nodup).1
  unfold bls at h1
  exact (List.pairwise_flatMap.1 h1).1 x hx
theorem Okp.names (h : Okp s fr ct L fl) : (L.map (·.1)).Nodup := by
  refine List.pairwise_map.2 (h.pair.imp_of_mem fun {x y} hx hy hp => hp x.1 (h.self hx) y.1 (h.self hy))
theorem Okp.notFree (h : Okp s fr ct L fl) {x b : Nat} (hx : x ∈ bls L) (hb : b ∈ fl) : x ≠ b := (List.nodup_append.1 h.nodup).2.2 x hx b hb
theorem Okp.newName (h : Okp s fr ct L fl) {b : Nat} (hb : b ∈ fl) : b ∉ L.map (·.1) := fun hm => by
  obtain ⟨x, hx, rfl⟩ := List.mem_map.1 hm
  exact h.notFree (mem_bls.2 ⟨x, hx, h.self hx⟩) hb rfl
/-- Writes into free blocks leave the texts. -/
theorem Okp.wrote (h : Okp s fr ct L fl) (vs : List Wr) (hv : ∀ x ∈ vs, x.1 ∈ fl) (fu : Int) (dn : Bool) : Okp { s with ws := s.ws ++ vs, fuse := fu, down := dn } fr ct L fl :=
  ⟨fun x hx => (h.lies x hx).other fun y hy hm => h.notFree (mem_bls.2 ⟨x, hx, hm⟩) (hv y hy) rfl, h.perm, h.area, h.one, h.nb⟩
theorem Okp.turned (h : Okp s fr ct L fl) (fu : Int) (dn : Bool) : Okp { s with fuse := fu, down := dn } fr ct L fl := ⟨h.lies, h.perm, h.area, h.one, h.nb⟩
/-- One text more. -/
theorem Okp.put (h : Okp s fr ct L fl) (t : Bool) (nm : Nat) (l : List UInt8) (hl : l.length ≤ 20000) (hn : fl.head? = some nm) (hk : bks l.length ≤ fl.length) (fu : Int) (dn : Bool) :
    Okp { s with ws := s.ws ++ wsOf t nm (fl.take (bks l.length)) l (bks l.length), fuse := fu, down := dn } fr ct (L ++ [(nm, fl.take (bks l.length), l)]) (fl.drop (bks l.length)) := by
  have hlen : (fl.take (bks l.length)).length = bks l.length := by rw [List.length_take]; omega
  have hv : ∀ x ∈ wsOf t nm (fl.take (bks l.length)) l (bks l.length), x.1 ∈ fl := fun x hx => by
    obtain ⟨j, hj, rfl⟩ := wsOf_mem _ _ _ _ _ _ hx
    exact List.mem_of_mem_take (getD_mem (by rw [hlen]; exact hj))
  have hw := h.wrote _ hv fu dn
  refine ⟨fun x hx => ?_, ?_, h.area, h.one, h.nb⟩
  · rcases List.mem_append.1 hx with hx | hx
    · exact hw.lies x hx
    · simp at hx
      subst hx
      have := lies_put t nm (fl.take (bks l.length)) l s.ws ((List.nodup_append.1 h.nodup).2.1.sublist (List.take_sublist _ _)) hlen (by
        have := bks_pos l.length
        cases fl with
        | nil => simp at hn
        | cons a r => obtain ⟨k, hk⟩ : ∃ k, bks l.length = k + 1 := ⟨bks l.length - 1, by omega⟩; rw [hk]; simpa using hn) hl (fun x hx => by
        have := h.mem (List.mem_append.2 (.inr (List.mem_of_mem_take hx))); have := h.area; have := h.nb; omega)
      rw [hlen] at this
      exact this
  · rw [bls_append, bls_one, List.append_assoc, List.take_append_drop]
    exact h.perm
/-- One text less. -/
theorem Okp.drop {A B : List Ent} {x : Ent} (h : Okp s fr ct (A ++ x :: B) fl) : Okp s fr ct (A ++ B) (fl ++ x.2.1) := by
  refine ⟨fun y hy => h.lies y ?_, ?_, h.area, h.one, h.nb⟩
  · rcases List.mem_append.1 hy with h1 | h1
    · simp [h1]
    · simp [h1]
  · refine List.Perm.trans ?_ h.perm
    rw [bls_append, bls_append, bls_cons]
    refine (List.Perm.of_eq (by simp : bls A ++ bls B ++ (fl ++ x.2.1) = bls A ++ (bls B ++ (fl ++ x.2.1)))).trans ((List.Perm.append_left _ ?_).trans (List.Perm.of_eq (by simp : bls A ++ (x.2.1 ++ (bls B ++ fl)) = bls A ++ (x.2.1 ++ bls B) ++ fl)))
    exact (List.Perm.of_eq (by simp : bls B ++ (fl ++ x.2.1) = (bls B ++ fl) ++ x.2.1)).trans List.perm_append_comm
theorem Okp.new {nb : Nat} (hnb : nb ≤ 65536) (hc : 1 ≤ ct) (ha : fr + ct ≤ nb) : Okp ⟨nb, [], -1, false⟩ fr ct [] (List.range' fr ct) := ⟨by simp, by simp [bls], ha, hc, hnb⟩
/-- What is free when the texts L are opened. -/
theorem freeOf_perm (hn : (bls L).Nodup) (hin : ∀ b ∈ bls L, fr ≤ b ∧ b < fr + ct) : (bls L ++ freeOf fr ct (ets L)).Perm (List.range' fr ct) := by
  have hf : (freeOf fr ct (ets L)).Nodup := by
    unfold freeOf unmarked
    refine List.pairwise_map.2 ((List.nodup_range.sublist List.filter_sublist).imp fun {a b} h => by omega)
  have hm : ∀ b, b ∈ freeOf fr ct (ets L) ↔ (fr ≤ b ∧ b < fr + ct) ∧ b ∉ bls L := by
    intro b
    unfold freeOf unmarked
    simp only [List.mem_map, List.mem_filter, List.mem_range, Bool.not_eq_true', List.any_eq_false, List.contains_eq_mem, decide_eq_true_eq]
    constructor
    · rintro ⟨j, ⟨h1, h2⟩, rfl⟩
      refine ⟨⟨by omega, by omega⟩, fun hb => ?_⟩
      obtain ⟨x, hx, hb⟩ := mem_bls.1 hb
      exact h2 (x.1, x.2.1) (List.mem_map.2 ⟨x, hx, rfl⟩) hb
    · rintro ⟨⟨h1, h2⟩, h3⟩
      refine ⟨b - fr, ⟨by omega, fun x hx hb => h3 ?_⟩, by omega⟩
      obtain ⟨y, hy, rfl⟩ := List.mem_map.1 hx
      rw [show fr + (b - fr) = b by omega] at hb
      exact mem_bls.2 ⟨y, hy, hb⟩
  refine (List.perm_ext_iff_of_nodup (List.nodup_append.2 ⟨hn, hf, fun a ha b hb e => ((hm b).1 hb).2 (e ▸ ha)⟩) List.nodup_range').2 fun b => ?_
  rw [List.mem_append, hm, List.mem_range'_1]
  constructor
  · rintro (h | h)
    · exact hin b h
    · exact h.1
  · intro h
    by_cases hb : b ∈ bls L
    · exact .inl hb
    · exact .inr ⟨h, hb⟩
end
end Go.Proofs.Ytilelklcfgemoaa
