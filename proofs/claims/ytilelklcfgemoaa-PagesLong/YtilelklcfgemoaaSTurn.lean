/-
  A sealed block is one, by its kind and place alone; with one byte turned it is none. Nothing here speaks of the program.
-/
import Derived.Test.YtilelklcfgemoaaSRefOpen
namespace Go.Proofs.Ytilelklcfgemoaa
open Go.RowKit
set_option linter.unusedVariables false
theorem sealedL_split (kind : UInt8) (place : Nat) (p : List UInt8) : ∃ A : List UInt8, A.length = 13 ∧ sealedL kind place p = A ++ UInt8.ofNat p.length :: (p ++ zs (242 - p.length)) := by
  refine ⟨be 8 (fnv (rest kind place p)) ++ kind :: be 4 place, by rw [List.length_append, be_length, List.length_cons, be_length], ?_⟩
  unfold sealedL
  rw [List.append_assoc]
  rfl
theorem sealedL_13 (kind : UInt8) (place : Nat) (p : List UInt8) (h : p.length ≤ 242) : ((sealedL kind place p)[13]?.getD 0).toNat = p.length := by
  obtain ⟨A, hA, e⟩ := sealedL_split kind place p
  rw [e, List.getElem?_append_right (by omega), hA]
  simp
  omega
theorem sealedL_payload (kind : UInt8) (place : Nat) (p : List UInt8) (h : p.length ≤ 242) : payloadOf (sealedL kind place p) = p := by
  unfold payloadOf
  rw [sealedL_13 kind place p h]
  obtain ⟨A, hA, e⟩ := sealedL_split kind place p
  rw [e, show 14 = 13 + 1 from rfl, ← List.drop_drop, drop_len hA]
  show List.take p.length (p ++ _) = p
  exact take_len rfl
theorem fits_sealed (kind : UInt8) (place : Nat) (p : List UInt8) (h : p.length ≤ 242) : Fits kind place (sealedL kind place p) :=
  ⟨sealedL_length kind place p h, by rw [sealedL_13 kind place p h]; exact h, by rw [sealedL_payload kind place p h]⟩
theorem fits_other (kind k2 : UInt8) (place p2 : Nat) (p : List UInt8) (h : p.length ≤ 242) (h1 : place < 4294967296) (h2 : p2 < 4294967296) (hF : Fits k2 p2 (sealedL kind place p)) : k2 = kind ∧ p2 = place := by
  have h3 := hF.2.2
  rw [sealedL_payload kind place p h] at h3
  have h4 := congrArg (List.drop 8) h3
  rw [sealedL_drop, sealedL_drop] at h4
  unfold rest at h4
  injection h4 with e1 e2
  have h5 := List.append_inj_left e2 (by rw [be_length, be_length])
  exact ⟨e1.symm, (be_inj 4 place p2 h1 h2 h5).symm⟩
/-- The first eight bytes are the sum of the others. -/
def Summed (B : List UInt8) : Prop := B.take 8 = be 8 (fnv (B.drop 8))
theorem summed_sealed (kind : UInt8) (place : Nat) (p : List UInt8) : Summed (sealedL kind place p) := by
  unfold Summed
  rw [sealedL_take, sealedL_drop]
theorem summed_turned (B : List UInt8) (a : Nat) (u : UInt8) (ha : a < B.length) (h : Summed B) (h2 : Summed (B.set a u)) : u = B[a] := by
  unfold Summed at h h2
  by_cases h8 : a < 8
  · rw [List.drop_set_of_lt h8, ← h] at h2
    have e := congrArg (fun l => l[a]?) h2
    simp only [List.getElem?_take_of_lt h8] at e
    rw [List.getElem?_set_self ha] at e
    have e2 : B[a]? = some B[a] := by simp
    rw [e2] at e
    injection e
  · rw [List.take_set_of_le (by omega), h] at h2
    have h3 := be_inj 8 _ _ (fnv_lt _) (fnv_lt _) h2
    have e : (B.set a u).drop 8 = (B.drop 8).set (a - 8) u := by
      rw [List.drop_set, if_neg (by omega)]
    rw [e] at h3
    have h4 := fnv_set (B.drop 8) (a - 8) u (by rw [List.length_drop]; omega) h3.symm
    rw [h4, List.getElem_drop]
    congr 1
    omega
theorem fits_turned (kind : UInt8) (place : Nat) (p : List UInt8) (a : Nat) (u : UInt8) (h : p.length ≤ 242) (ha : a < (sealedL kind place p).length) (hF : Fits kind place ((sealedL kind place p).set a u)) : u = (sealedL kind place p)[a] :=
  summed_turned _ a u ha (summed_sealed kind place p) (by rw [hF.2.2]; exact summed_sealed _ _ _)
end Go.Proofs.Ytilelklcfgemoaa
