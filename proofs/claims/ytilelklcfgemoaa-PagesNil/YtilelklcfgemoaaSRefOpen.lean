/-
  Open, the program's and the document's: the payload, and true, where the bytes are the sealed block of kind and place; else nothing, and false.
-/
import Derived.Test.YtilelklcfgemoaaSRefSeal
namespace Go.Proofs.Ytilelklcfgemoaa
open Go.RowKit
set_option linter.unusedVariables false
/-- What a block tells as its payload. -/
def payloadOf (B : List UInt8) : List UInt8 := (B.drop 14).take (B[13]?.getD 0).toNat
/-- The bytes B are a sealed block of kind and place. -/
def Fits (kind : UInt8) (place : Nat) (B : List UInt8) : Prop := B.length = 256 ∧ (B[13]?.getD 0).toNat ≤ 242 ∧ B = sealedL kind place (payloadOf B)
/-- What Open answers, and leaves. -/
def Opened (kind : UInt8) (place : Nat) (B : List UInt8) (w : World) (e : Ending) (w' : World) : Prop :=
  ∃ v' ok p, e = .returned (.tuple #[v', .bool ok]) ∧ Reads w' v' p ∧ Kept [] w w' ∧ Fresh w v' ∧ (ok = true ∧ Fits kind place B ∧ p = payloadOf B ∨ ok = false ∧ ¬ Fits kind place B ∧ p = [])
theorem opened_none {kind : UInt8} {place : Nat} {B : List UInt8} {w : World} {e : Ending} {w' : World} (he : e = .returned (.tuple #[.slice none 0 0, .bool false])) (hk : Kept [] w w') (hn : ¬ Fits kind place B) : Opened kind place B w e w' :=
  ⟨_, false, [], he, Reads.nil w', hk, (by intro g hg; simp [Value.ownBlock] at hg), .inr ⟨rfl, hn, rfl⟩⟩
/-- The ways of a block: too short or long; a length that is none; else its payload lies in it. -/
theorem block_cases {w : World} {v : Value} {B : List UInt8} (h : Reads w v B) :
    (∃ a n cap, v = .slice a n cap ∧ ((n : Int) != 256) = true ∧ B.length ≠ 256) ∨
    (∃ b o cap k, v = .slice (some ⟨b, o, none⟩) 256 cap ∧ 256 ≤ cap ∧ w.cell? ⟨b, o + 13, none⟩ = some (.int .u8 ((k : Nat) : Int)) ∧ B.length = 256 ∧ (B[13]?.getD 0).toNat = k ∧ (k ≤ 242 → (payloadOf B).length = k ∧ Reads w (.slice (some ⟨b, o + 14, none⟩) k (cap - 14)) (payloadOf B))) := by
  by_cases hl : B.length = 256
  · rcases reads_cases h with ⟨a, cap, rfl, rfl, _⟩ | ⟨b, o, cap, rfl, h1, h2, hc⟩
    · simp at hl
    · right
      have hu : B[13]? = some (B[13]'(by omega)) := by simp
      refine ⟨b, o, cap, (B[13]'(by omega)).toNat, by rw [hl], by omega, hc 13 _ hu, hl, by rw [hu]; rfl, fun hk => ?_⟩
      have hpl : (payloadOf B).length = (B[13]'(by omega)).toNat := by
        unfold payloadOf
        rw [List.length_take, List.length_drop, hu]
        simp only [Option.getD_some]
        omega
      refine ⟨hpl, _, cap - 14, by rw [hpl], by rw [hpl]; omega, by unfold maxLen; omega, by simp, fun _ => ⟨b, o + 14, rfl, fun j u hj => ?_⟩⟩
      have hjk : j < (payloadOf B).length := (List.getElem?_eq_some_iff.1 hj).1
      unfold payloadOf at hj
      rw [List.getElem?_take_of_lt (by rw [hu]; simp only [Option.getD_some]; omega), List.getElem?_drop] at hj
      have := hc (14 + j) u hj
      rw [Nat.add_assoc]
      exact this
  · left
    obtain ⟨a, cap, rfl, _⟩ := h
    exact ⟨a, B.length, cap, rfl, by simp; omega, hl⟩
/-- Open. -/
theorem open_any (kind : UInt8) (place : Nat) (v : Value) (B : List UInt8) (w : World) (hp : place < 4294967296) (hr : Reads w v B) :
    Calls Try.prog 61 #[.int .u8 (kind.toNat : Int), .int .u32 (place : Int), v] w fun e w' => Opened kind place B w e w' := by
  rcases block_cases hr with ⟨a, n, cap, rfl, hn, hB⟩ | ⟨b, o, cap, k, rfl, hcap, hc, hB, hk13, hpay⟩
  · exact (open_len _ _ a n cap w hn).mono fun e w' ⟨he, hw⟩ => opened_none he (hw ▸ Kept.refl [] w) (fun h => hB h.1)
  · by_cases hk : k ≤ 242
    · obtain ⟨hpl, hpr⟩ := hpay hk
      have hs := sealed_any kind place _ (payloadOf B) w hp (by omega) hpr
      by_cases hE : B = sealedL kind place (payloadOf B)
      · rw [← hE] at hs
        exact (open_yes kind place b o cap k B (payloadOf B) w hcap hk (by omega) hc hr hpr hs).mono fun e w' ⟨v', he, h1, h2, h3⟩ => ⟨v', true, _, he, h1, h2, h3, .inl ⟨rfl, ⟨hB, by omega, hE⟩, rfl⟩⟩
      · exact (open_no kind place b o cap k B _ (payloadOf B) w hcap hk hc hr hs hE).mono fun e w' ⟨he, h2⟩ => opened_none he h2 (fun h => hE h.2.2)
    · exact (open_over _ _ b o cap k w hcap (by omega) hc).mono fun e w' ⟨he, hw⟩ => opened_none he (hw ▸ Kept.refl [] w) (fun h => hk (by have := h.2.1; omega))
end Go.Proofs.Ytilelklcfgemoaa
