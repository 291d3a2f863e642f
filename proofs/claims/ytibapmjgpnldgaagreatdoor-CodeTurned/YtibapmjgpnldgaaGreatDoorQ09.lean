import Derived.OpenShut
import Derived.Deep.QuietTactic
import Derived.BigQuiet
import Derived.Test.YtibapmjgpnldgaaGreatDoorQ07
import Derived.Test.YtibapmjgpnldgaaGreatDoorQ08
/-
  CodecOne: the walk.
-/
namespace Go.Proofs.YtibapmjgpnldgaaGreatDoor
set_option maxRecDepth 100000
open Go.RowKit
attribute [local go_sem ↓] Go.wp_at_zero Go.wp_at_succ
/-- Bytes that are read stay where no old block of theirs turns. -/
theorem Reads.kept2 {S : List Nat} {w w' : World} {v : Value} {l : List UInt8} (h : Reads w v l) (k : Kept S w w') (hn : ∀ g, v.ownBlock = some g → g < w.heap.size → g ∉ S) : Reads w' v l := by
  by_cases hl : l = []
  · obtain ⟨a, cap, rfl, h2, h3, h4, h5⟩ := h
    exact ⟨a, cap, rfl, h2, h3, h4, fun h => absurd hl h⟩
  · obtain ⟨g, hg, hlt⟩ := h.lt hl
    exact h.kept k fun g' hg' => hn g' hg' (by rw [hg] at hg'; injection hg' with e; omega)
theorem IsR.kept2 {t : TypeId} {S : List Nat} {w w' : World} {p : Nat} {v : Value} {l : List UInt8} {bad : Bool} (h : IsR t w p v l bad) (k : Kept S w w') (hS : ∀ g ∈ S, w.heap.size ≤ g) : IsR t w' p v l bad :=
  ⟨k.keeps h.box (fun hm => by have := hS p hm; have := h.lt; omega), h.reads.kept2 k (fun g _ hlt hm => by have := hS g hm; omega), h.apart, h.none⟩
theorem IsW.kept2 {t e : TypeId} {S : List Nat} {w w' : World} {p : Nat} {v : Value} {l : List UInt8} (h : IsW t e w p v l) (k : Kept S w w') (hS : ∀ g ∈ S, w.heap.size ≤ g) : IsW t e w' p v l :=
  h.kept k (fun hm => by have := hS p hm; have := h.lt; omega) (fun g hg hm => by have := hS g hm; have := h.own.lt hg; omega)
theorem Reads.drew {w : World} {v : Value} {l : List UInt8} (h : Reads w v l) : Reads w.drew v l := h
theorem IsR.drewN {t : TypeId} {w : World} {p : Nat} {v : Value} {l : List UInt8} {bad : Bool} (h : IsR t w p v l bad) (k : Nat) : IsR t (w.drewN k) p v l bad := ⟨h.box, h.reads, h.apart, h.none⟩
theorem IsR.drew {t : TypeId} {w : World} {p : Nat} {v : Value} {l : List UInt8} {bad : Bool} (h : IsR t w p v l bad) : IsR t w.drew p v l bad := ⟨h.box, h.reads, h.apart, h.none⟩
/-- A row of numbers that fit a byte reads as bytes. -/
theorem reads_of_row (W : World) (x : Addr) (zs : List Int) {len cap : Nat} (hl : len ≤ cap) (hm : cap ≤ maxLen) (hz : zs.length = cap) (hcell : ∀ i, i < zs.length → W.cell? (x.add i) = some (.int .u8 (zs.getD i 0))) (hwz : ∀ n ∈ zs, (Lit.int .u8 n).wf = true) (hb : len ≤ 140737488351232) :
    ∃ l, Reads W (.slice (some x) len cap) l ∧ l.length ≤ 140737488351232 := by
  have hlen : ((zs.take len).map fun z => UInt8.ofNat z.toNat).length = len := by rw [List.length_map, List.length_take]; omega
  refine ⟨(zs.take len).map fun z => UInt8.ofNat z.toNat, ⟨some x, cap, by rw [hlen], by omega, hm, by simp, fun hne => ?_⟩, by omega⟩
  have hpos : 0 < len := by
    rcases Nat.eq_zero_or_pos len with h | h
    · subst h; simp at hne
    · exact h
  obtain ⟨b, o, spot⟩ := x
  have hc := hcell 0 (by omega)
  have hspot : spot = none := by simpa [Addr.add] using World.cell?_spot hc
  subst hspot
  refine ⟨b, o, rfl, fun j u hu => ?_⟩
  rw [List.getElem?_map, Option.map_eq_some_iff] at hu
  obtain ⟨z, hz1, rfl⟩ := hu
  have hj : j < len := by
    have := (List.getElem?_eq_some_iff.1 hz1).1
    rw [List.length_take] at this; omega
  rw [List.getElem?_take_of_lt hj] at hz1
  have h := hcell j (by omega)
  have hadd : (⟨b, o, Option.none⟩ : Addr).add j = ⟨b, o + j, Option.none⟩ := by unfold Addr.add; split <;> simp_all
  rw [hadd] at h
  rw [h]
  have hzz : zs.getD j 0 = z := by simp [List.getD, hz1]
  rw [hzz]
  have hw := bounds_u8 (hwz z (List.mem_of_getElem? hz1))
  congr 1
  exact (B8_of z.toNat z (by omega))
/-- Bytes that are read as a number, wholly, are its own. -/
theorem one_plain (l : List UInt8) (h : (!(rnum l false).2.2 && (rnum l false).2.1.isEmpty) = true) : enc (rnum l false).1 = l := by
  unfold rnum at h ⊢
  by_cases hk : (dec l).2 = 0
  · rw [if_pos hk] at h; simp at h
  · rw [if_neg hk] at h ⊢
    have h2 : (l.drop (dec l).2).isEmpty = true := by simpa using h
    have h3 : l.length ≤ (dec l).2 := by
      rw [List.isEmpty_iff] at h2
      exact List.drop_eq_nil_iff.1 h2
    rw [enc_dec l hk, List.take_of_length_le h3]
end Go.Proofs.YtibapmjgpnldgaaGreatDoor
