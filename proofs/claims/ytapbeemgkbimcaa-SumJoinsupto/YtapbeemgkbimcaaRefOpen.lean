/-
  Open, the program's and the document's: the payload, and true, where the bytes are the sealed block of kind and place; else nothing, and false.
-/
import Derived.Test.YtapbeemgkbimcaaRefSeal
namespace Go.Proofs.Ytapbeemgkbimcaa
open Go.RowKit
set_option linter.unusedVariables false

/-- What a block tells as its payload. -/
def payloadOf (B : List UInt8) : List UInt8 := (B.drop 14).take (B[13]?.getD 0).toNat
/-- The bytes B are a sealed block of kind and place. -/
def Fits (kind : UInt8) (place : Nat) (B : List UInt8) : Prop := B.length = 256 ∧ (B[13]?.getD 0).toNat ≤ 242 ∧ B = sealedL kind place (payloadOf B)
/-- What Open answers, and leaves. -/
def Opened (kind : UInt8) (place : Nat) (B : List UInt8) (w : World) (e : Ending) (w' : World) : Prop :=
  ∃ v' ok p, e = .returned (.tuple #[v', .bool ok]) ∧ Reads w' v' p ∧ Kept [] w w' ∧ (ok = true ∧ Fits kind place B ∧ p = payloadOf B ∨ ok = false ∧ ¬ Fits kind place B ∧ p = [])

theorem opened_none {kind : UInt8} {place : Nat} {B : List UInt8} {w : World} {e : Ending} {w' : World} (he : e = .returned (.tuple #[.slice none 0 0, .bool false])) (hk : Kept [] w w') (hn : ¬ Fits kind place B) : Opened kind place B w e w' :=
  ⟨_, false, [], he, Reads.nil w', hk, .inr ⟨rfl, hn, rfl⟩⟩

/-- The ways of a block: too short or long; a length that is none; else its payload lies in it. -/
theorem block_cases {w : World} {v : Value} {B : List UInt8} (h : Reads w v B) :
    (∃ a n cap, v = .slice a n cap ∧ ((n : Int) != 256) = true ∧ B.length ≠ 256) ∨
    (∃ b o cap k, v = .slice (some ⟨b, o, none⟩) 256 cap ∧ 256 ≤ cap ∧ w.cell? ⟨b, o + 13, none⟩ = some (.int .u8 ((k : Nat) : Int)) ∧ B.length = 256 ∧ (B[13]?.getD 0).toNat = k ∧ (k ≤ 242 → (payloadOf B).length = k ∧ Reads w (.slice (some ⟨b, o + 14, none⟩) k (cap - 14)) (payloadOf B))) := by
  by_cases hl : B.length = 256
  · rcases reads_cases h with ⟨a, cap, rfl, rfl, _⟩ | ⟨b, o, cap, rfl, h1, h2, hc⟩
    · simp at hl
    · right
      have hu : B[13]? = some (B[13]'(by omega)) := by simp
      refine ⟨b, o, cap, (B[13]'(by omega)).toNat, by rw [hl], by omega, hc 13 _ hu, hl, by rw [hu]; rfl, fun hk => ?_⟩
      have hpl : (payloadOf B).length = (B[13]'(by omega)).toNat := by
        unfold payloadOf
        rw [List.length_take, List.length_drop, hu]
        simp only [Option.getD_some]
        omega
      refine ⟨hpl, _, cap - 14, by rw [hpl], by rw [hpl]; omega, by unfold maxLen; omega, by simp, fun _ => ⟨b, o + 14, rfl, fun j u hj => ?_⟩⟩
      have hjk : j < (payloadOf B).length := (List.getElem?_eq_some_iff.1 hj).1
      unfold payloadOf at hj
      rw [List.getElem?_take_of_lt (by rw [hu]; simp only [Option.getD_some]; omega), List.getElem?_drop] at hj
      have := hc (14 + j) u hj
      rw [Nat.add_assoc]
      exact this
  · left
    obtain ⟨a, cap, rfl, _⟩ := h
    exact ⟨a, B.length, cap, rfl, by simp; omega, hl⟩

/-- Open. -/
theorem open_any (kind : UInt8) (place : Nat) (v : Value) (B : List UInt8) (w : World) (hp : place < 4294967296) (hr : Reads w v B) :
    Calls Try.prog 13 #[.int .u8 (kind.toNat : Int), .int .u32 (place : Int), v] w fun e w' => Opened kind place B w e w' := by
  rcases block_cases hr with ⟨a, n, cap, rfl, hn, hB⟩ | ⟨b, o, cap, k, rfl, hcap, hc, hB, hk13, hpay⟩
  · exact (open_len _ _ a n cap w hn).mono fun e w' ⟨he, hw⟩ => opened_none he (hw ▸ Kept.refl [] w) (fun h => hB h.1)
  · by_cases hk : k ≤ 242
    · obtain ⟨hpl, hpr⟩ := hpay hk
      have hs := sealed_any kind place _ (payloadOf B) w hp (by omega) hpr
      by_cases hE : B = sealedL kind place (payloadOf B)
      · rw [← hE] at hs
        exact (open_yes kind place b o cap k B (payloadOf B) w hcap hk (by omega) hc hr hpr hs).mono fun e w' ⟨v', he, h1, h2⟩ => ⟨v', true, _, he, h1, h2, .inl ⟨rfl, ⟨hB, by omega, hE⟩, rfl⟩⟩
      · exact (open_no kind place b o cap k B _ (payloadOf B) w hcap hk hc hr hs hE).mono fun e w' ⟨he, h2⟩ => opened_none he h2 (fun h => hE h.2.2)
    · exact (open_over _ _ b o cap k w hcap (by omega) hc).mono fun e w' ⟨he, hw⟩ => opened_none he (hw ▸ Kept.refl [] w) (fun h => hk (by have := h.2.1; omega))

/-- The document's Seal, of a payload that fits. -/
theorem refseal_any (kind : UInt8) (place : Nat) (v : Value) (p : List UInt8) (w : World) (hp : place < 4294967296) (hl : p.length ≤ 242) (hr : Reads w v p) :
    Calls Try.prog 12 #[.int .u8 (kind.toNat : Int), .int .u32 (place : Int), v] w fun e w' => ∃ v', e = .returned (.tuple #[v', .int .i64 0]) ∧ Reads w' v' (sealedL kind place p) ∧ Kept [] w w' := by
  have hr' := hr
  obtain ⟨a, cap, rfl, h2, h3, h4, h5⟩ := hr
  exact refseal_walk kind place a p.length cap p w hp hl h2 rfl hr'

set_option maxRecDepth 100000 in
set_option maxHeartbeats 400000 in
theorem refopen_len (x y : Int) (a : Option Addr) (n cap : Nat) (w : World) (hn : ((n : Int) != 256) = true) : Calls Try.prog 14 #[.int .u8 x, .int .u32 y, .slice a n cap] w fun e w' => e = .returned (.tuple #[.slice none 0 0, .bool false]) ∧ w = w' := by
  go_enter Try.func14, Try.ntmps14
  go_wp2
  go_ret2
  exact ⟨rfl, rfl⟩

set_option maxRecDepth 100000 in
set_option maxHeartbeats 400000 in
theorem refopen_over (x y : Int) (b o cap k : Nat) (w : World) (hcap : 256 ≤ cap) (hk : 242 < k) (hc : w.cell? ⟨b, o + 13, none⟩ = some (.int .u8 (k : Int))) : Calls Try.prog 14 #[.int .u8 x, .int .u32 y, .slice (some ⟨b, o, none⟩) 256 cap] w fun e w' => e = .returned (.tuple #[.slice none 0 0, .bool false]) ∧ w = w' := by
  go_enter Try.func14, Try.ntmps14
  go_wp2
  go_ret2
  exact ⟨rfl, rfl⟩

set_option maxRecDepth 100000 in
set_option maxHeartbeats 400000 in
theorem refopen_no (kind : UInt8) (place b o cap k : Nat) (B L : List UInt8) (w : World) (hcap : 256 ≤ cap) (hk : k ≤ 242) (hc : w.cell? ⟨b, o + 13, none⟩ = some (.int .u8 (k : Int))) (hB : Reads w (.slice (some ⟨b, o, none⟩) 256 cap) B)
    (hs : Calls Try.prog 12 #[.int .u8 (kind.toNat : Int), .int .u32 (place : Int), .slice (some ⟨b, o + 14, none⟩) k (cap - 14)] w fun e w' => ∃ v', e = .returned (.tuple #[v', .int .i64 0]) ∧ Reads w' v' L ∧ Kept [] w w') (hne : B ≠ L) :
    Calls Try.prog 14 #[.int .u8 (kind.toNat : Int), .int .u32 (place : Int), .slice (some ⟨b, o, none⟩) 256 cap] w fun e w' => e = .returned (.tuple #[.slice none 0 0, .bool false]) ∧ Kept [] w w' := by
  have hsl := slice_mid b o 256 cap 14 k (by omega) (by omega)
  have hnb := str_ne L B (fun h => hne h.symm)
  go_enter Try.func14, Try.ntmps14
  go_wp2_with fail
  refine hs.mono ?_
  rintro e w1 ⟨v1, rfl, hS, hK⟩
  have s1 := string_of (P := Try.prog) 22 5 Try.underlying22 9 Try.underlying5 Try.underlying9 v1 L w1 hS
  have s2 := string_of (P := Try.prog) 22 5 Try.underlying22 9 Try.underlying5 Try.underlying9 _ B w1 (hB.kept hK (by simp))
  generalize (⟨L.toArray⟩ : ByteArray) = t1 at s1 hnb
  generalize (⟨B.toArray⟩ : ByteArray) = t2 at s2 hnb
  clear hS hB hne
  go_wp2_with fail
  go_ret2
  exact ⟨rfl, hK⟩

set_option maxRecDepth 100000 in
set_option maxHeartbeats 400000 in
theorem refopen_yes (kind : UInt8) (place b o cap k : Nat) (B p : List UInt8) (w : World) (hcap : 256 ≤ cap) (hk : k ≤ 242) (hpl : p.length ≤ 242) (hc : w.cell? ⟨b, o + 13, none⟩ = some (.int .u8 (k : Int))) (hB : Reads w (.slice (some ⟨b, o, none⟩) 256 cap) B)
    (hp : Reads w (.slice (some ⟨b, o + 14, none⟩) k (cap - 14)) p)
    (hs : Calls Try.prog 12 #[.int .u8 (kind.toNat : Int), .int .u32 (place : Int), .slice (some ⟨b, o + 14, none⟩) k (cap - 14)] w fun e w' => ∃ v', e = .returned (.tuple #[v', .int .i64 0]) ∧ Reads w' v' B ∧ Kept [] w w') :
    Calls Try.prog 14 #[.int .u8 (kind.toNat : Int), .int .u32 (place : Int), .slice (some ⟨b, o, none⟩) 256 cap] w fun e w' => ∃ v', e = .returned (.tuple #[v', .bool true]) ∧ Reads w' v' p ∧ Kept [] w w' := by
  have hsl := slice_mid b o 256 cap 14 k (by omega) (by omega)
  go_enter Try.func14, Try.ntmps14
  go_wp2_with fail
  refine hs.mono ?_
  rintro e w1 ⟨v1, rfl, hS, hK⟩
  have s1 := string_of (P := Try.prog) 22 5 Try.underlying22 9 Try.underlying5 Try.underlying9 v1 B w1 hS
  have s2 := string_of (P := Try.prog) 22 5 Try.underlying22 9 Try.underlying5 Try.underlying9 _ B w1 (hB.kept hK (by simp))
  generalize (⟨B.toArray⟩ : ByteArray) = t2 at s1 s2
  have hO0 := own_new w1 [] #[] rfl 0 rfl (by unfold maxLen; omega)
  have hk1 := (Kept.refl [] w1).alloc (.cells #[] 5)
  have hp1 := (hp.kept hK (by simp)).kept hk1 (by simp)
  clear hS hB hp
  have hpl2 : Hid (p.length ≤ 242) := hpl
  clear hpl
  go_wp2_with (at_builtin; refine wpList_append_reads rfl _ _ rfl w1 _ _ rfl hO0 (fresh_new w1 0 0) hk1 _ _ rfl hp1 (by have := hpl2.out; show 0 + _ ≤ _; omega) ?_; intro ad4 n4 cap4 w4 hn4 hO4 hF4 hK4 hE4)
  go_ret2
  exact ⟨_, rfl, hO4.reads, hK.trans hK4 (by simp)⟩

/-- The document's Open. -/
theorem refopen_any (kind : UInt8) (place : Nat) (v : Value) (B : List UInt8) (w : World) (hp : place < 4294967296) (hr : Reads w v B) :
    Calls Try.prog 14 #[.int .u8 (kind.toNat : Int), .int .u32 (place : Int), v] w fun e w' => Opened kind place B w e w' := by
  rcases block_cases hr with ⟨a, n, cap, rfl, hn, hB⟩ | ⟨b, o, cap, k, rfl, hcap, hc, hB, hk13, hpay⟩
  · exact (refopen_len _ _ a n cap w hn).mono fun e w' ⟨he, hw⟩ => opened_none he (hw ▸ Kept.refl [] w) (fun h => hB h.1)
  · by_cases hk : k ≤ 242
    · obtain ⟨hpl, hpr⟩ := hpay hk
      have hs := refseal_any kind place _ (payloadOf B) w hp (by omega) hpr
      by_cases hE : B = sealedL kind place (payloadOf B)
      · rw [← hE] at hs
        exact (refopen_yes kind place b o cap k B (payloadOf B) w hcap hk (by omega) hc hr hpr hs).mono fun e w' ⟨v', he, h1, h2⟩ => ⟨v', true, _, he, h1, h2, .inl ⟨rfl, ⟨hB, by omega, hE⟩, rfl⟩⟩
      · exact (refopen_no kind place b o cap k B _ w hcap hk hc hr hs hE).mono fun e w' ⟨he, h2⟩ => opened_none he h2 (fun h => hE h.2.2)
    · exact (refopen_over _ _ b o cap k w hcap (by omega) hc).mono fun e w' ⟨he, hw⟩ => opened_none he (hw ▸ Kept.refl [] w) (fun h => hk (by have := h.2.1; omega))

end Go.Proofs.Ytapbeemgkbimcaa
