import Derived.Test.YtibapmjgpnldgaaGreatDoorQ18
import Derived.Test.YtibapmjgpnldgaaGreatDoorQ19
import Derived.Test.YtibapmjgpnldgaaGreatDoorQ20
/-
  A strings.Builder that is written.
-/
namespace Go.Proofs.YtibapmjgpnldgaaGreatDoor
open Go.RowKit
set_option maxRecDepth 100000
set_option linter.unusedVariables false
/-- A Builder at block b, made behind W, holds l; nothing elder was turned. -/
structure Bd (W : World) (b : Nat) (l : List UInt8) (wr : World) : Prop where
  isB : Lib.IsBuilderF 49 5 b b (Lib.byteCells l) wr
  hb : W.heap.size = b
  kept : Kept [] W wr
section
variable {W wr w2 : World} {b : Nat} {l : List UInt8}
theorem builderAt_keep {p : Value} {bs : List Value} {B : Nat} (h : Lib.BuilderAtF 49 5 B b p bs wr) (k : Kept [] wr w2) : Lib.BuilderAtF 49 5 B b p bs w2 := by
  obtain ⟨hB, v, hbk, hown, hne⟩ := h
  refine ⟨hB, v, k.keeps hbk (by simp), ?_, hne⟩
  obtain ⟨h1, h2⟩ := hown
  refine ⟨h1, ?_⟩
  rcases h2 with h2 | ⟨g, cap, cur, fz, e1, e2, e3, e4⟩
  · exact .inl h2
  · exact .inr ⟨g, cap, cur, fz, e1, e2, k.keeps e3 (by simp), e4⟩
theorem Bd.keep (h : Bd W b l wr) (k : Kept [] wr w2) : Bd W b l w2 :=
  ⟨h.isB.elim (fun x => .inl (builderAt_keep x k)) (fun x => .inr (builderAt_keep x k)), h.hb, h.kept.then k⟩
theorem Bd.below (h : Bd W b l wr) (B : Below b wr w2) : Kept [] W w2 :=
  ⟨B.os.trans h.kept.os, B.tape.trans h.kept.tape, B.output.trans h.kept.output, Nat.le_trans h.kept.size B.size, fun k hk _ => by
    rw [B.block k (by rw [← h.hb]; exact hk)]
    exact h.kept.block k hk (by simp)⟩
theorem Bd.le (h : Bd W b l wr) : b ≤ wr.heap.size := by rw [← h.hb]; exact h.kept.size
theorem Bd.start (W : World) : Bd W W.heap.size [] (W.alloc (.cells #[.pointer none, .slice none 0 0] 49)) :=
  ⟨Lib.IsBuilderF.of (Lib.fresh_isBuilder 49 5 W), rfl, (Kept.refl [] W).alloc _⟩
/-- What is neither the Builder nor bytes is as it was. -/
def Oth (b : Nat) (w w' : World) : Prop := ∀ k c t, w.heap[k]? = some (.cells c t (0, 0)) → k ≠ b → t ≠ 5 → w'.heap[k]? = some (.cells c t (0, 0))
theorem oth_of {w w' : World} (h : Lib.OthersKept 5 (some b) w w') : Oth b w w' := fun k c t hk hb ht => h k _ hk (fun e => hb (by simpa using e)) (fun _ _ e => by cases e; exact ht rfl)
theorem Bd.lt (h : Bd W b l wr) : b < wr.heap.size := by
  rcases h.isB with ⟨-, v, hb, -⟩ | ⟨-, v, hb, -⟩
  · exact lt_of_block hb
  · exact lt_of_block hb
theorem bd_string (h : Bd W b l wr) (s : List UInt8) (hl : l.length + s.length ≤ 1000000) : Calls Tryz.prog 32 #[.pointer (some ⟨b, 0, none⟩), .string ⟨s.toArray⟩] wr fun e w' => e = .returned (.tuple #[.int .i64 s.length, .nilIface]) ∧ Bd W b (l ++ s) w' ∧ Oth b wr w' := by
  have hz : (⟨s.toArray⟩ : ByteArray).size = s.length := by simp [ByteArray.size]
  refine (Builder_WriteString_k b b _ ⟨s.toArray⟩ wr h.isB (by rw [Lib.byteCells_length, hz]; omega) h.le).mono ?_
  rintro e w' ⟨rfl, hb, hB, hO⟩
  rw [hz]
  refine ⟨rfl, ⟨.inr ?_, h.hb, h.below hB⟩, oth_of hO⟩
  have e : Lib.byteCells (l ++ s) = Lib.byteCells l ++ Lib.strCells ⟨s.toArray⟩ := by simp [Lib.byteCells, Lib.strCells]
  rw [e]
  exact hb
theorem bd_byte (h : Bd W b l wr) (c : UInt8) (hl : l.length ≤ 1000000) : Calls Tryz.prog 33 #[.pointer (some ⟨b, 0, none⟩), .int .u8 (c.toNat : Int)] wr fun e w' => e = .returned .nilIface ∧ Bd W b (l ++ [c]) w' ∧ Oth b wr w' := by
  refine (Builder_WriteByte_k b b _ _ wr h.isB (by rw [Lib.byteCells_length]; omega) h.le).mono ?_
  rintro e w' ⟨rfl, hb, hB, hO⟩
  refine ⟨rfl, ⟨.inr ?_, h.hb, h.below hB⟩, oth_of hO⟩
  have e : Lib.byteCells (l ++ [c]) = Lib.byteCells l ++ [.int .u8 (c.toNat : Int)] := by simp [Lib.byteCells]
  rw [e]
  exact hb
theorem bd_text (h : Bd W b l wr) : Calls Tryz.prog 15 #[.pointer (some ⟨b, 0, none⟩)] wr fun e w' => e = .returned (.string ⟨l.toArray⟩) ∧ Kept [] W w' := by
  refine (Builder_String_any_k b b l wr h.isB h.le).mono ?_
  rintro e w' ⟨rfl, -, hB, -⟩
  exact ⟨rfl, h.below hB⟩
end
end Go.Proofs.YtibapmjgpnldgaaGreatDoor
/-
  printName, printInstr.
-/
namespace Go.Proofs.YtibapmjgpnldgaaGreatDoor
open Go.RowKit
open Go.Lib (itoa)
set_option maxRecDepth 100000
set_option linter.unusedVariables false
theorem hex_hi : ∀ n, n < 256 → (⟨#[48, 49, 50, 51, 52, 53, 54, 55, 56, 57, 97, 98, 99, 100, 101, 102]⟩ : ByteArray).data[n / 16]? = some (hexC (n / 16)) := by decide +kernel
theorem and15 : ∀ n, n < 256 → bits BinOp.and IntKind.u8 ((n : Nat) : Int) 15 = ((n % 16 : Nat) : Int) := by decide +kernel
theorem hex_at : ∀ d, d < 16 → ∀ h, (⟨#[48, 49, 50, 51, 52, 53, 54, 55, 56, 57, 97, 98, 99, 100, 101, 102]⟩ : ByteArray)[d]'h = hexC d := by decide +kernel
theorem hexS_take {s : List UInt8} {j : Nat} {c : UInt8} (h : s[j]? = some c) : hexS (s.take (j + 1)) = hexS (s.take j) ++ [hexC (c.toNat / 16), hexC (c.toNat % 16)] := by
  obtain ⟨h1, h2⟩ := List.getElem?_eq_some_iff.1 h
  rw [List.take_add_one, h]
  simp [hexS]
theorem dec_len (u : Nat) : ∀ n, u < 10 ^ n → 1 ≤ n → (Go.Lib.decDigits u).length ≤ n := by
  induction u using Nat.strongRecOn with
  | _ u ih =>
    intro n h h1
    rw [Go.Lib.decDigits]
    split
    · simp; omega
    · rename_i hu
      match n, h1 with
      | 1, _ => omega
      | n + 2, _ =>
        have := ih (u / 10) (by omega) (n + 1) (by rw [Nat.pow_succ] at h; omega) (by omega)
        simp
        omega
theorem itoa_len {z : Int} (h : I64 z) : (itoa z).length ≤ 100 := by
  unfold I64 at h
  unfold itoa
  split
  · have := dec_len z.natAbs 20 (by omega) (by omega)
    simp
    omega
  · have := dec_len z.toNat 20 (by omega) (by omega)
    omega
section
variable {W w : World} {b : Nat} {l : List UInt8}
set_option maxHeartbeats 1000000 in
theorem printName24 (hB : Bd W b l w) (s : List UInt8) (hs : s.length ≤ 1000) (hl : l.length ≤ 100000) : Calls Tryz.prog 13 #[.pointer (some ⟨b, 0, none⟩), .string ⟨s.toArray⟩] w fun e w' => e = .returned (.tuple #[]) ∧ Bd W b (l ++ (nameB ++ hexS s ++ [10])) w' := by
  have hz : (⟨s.toArray⟩ : ByteArray).size = s.length := by simp [ByteArray.size]
  have HS := Hid.mk (bd_string hB nameB (by simp [nameB]; omega))
  clear hB
  go_enter Tryz.func13, Tryz.ntmps13
  go_wp2_with fail
  refine HS.out.mono ?_
  rintro e w1 ⟨rfl, h1, oth1⟩
  have HB1 := Hid.mk h1
  clear h1 HS
  go_wp2_with fail
  go_loopw [9] (fun i wr => ∃ j : Nat, i = .int .i64 (j : Int) ∧ j ≤ s.length ∧ Hid (Bd W b (l ++ nameB ++ hexS (s.take j)) wr)) (fun i _ => s.length - (intOf i).toNat)
  case atStart => exact ⟨0, rfl, by omega, by simpa [hexS] using HB1⟩
  case round =>
    obtain ⟨j, rfl, hj, HB⟩ := hrel
    have hlen : (l ++ nameB ++ hexS (s.take j)).length ≤ 200000 := by simp [hexS_length, nameB]; omega
    by_cases hlt : j < s.length
    · have hjI : (j : Int) < (s.length : Int) := by omega
      have hj0 : (0 : Int) ≤ (j : Int) := by omega
      have hc : s[j]? = some s[j] := by simp
      obtain ⟨c, hc⟩ : ∃ c, s[j]? = some c := ⟨_, hc⟩
      have hA : ∀ h, (⟨s.toArray⟩ : ByteArray)[j]'h = c := fun h => byte_at hc h
      have hlt8 := c.toNat_lt
      have q1 : c.toNat / 16 < 16 := by omega
      have q2 : c.toNat % 16 < 16 := by omega
      have q3 : (c.toNat : Int) / 16 < 16 := by omega
      have q4 : (0 : Int) ≤ (c.toNat : Int) / 16 := by omega
      have q5 := and15 c.toNat hlt8
      have q6 : ((c.toNat % 16 : Nat) : Int) < 16 := by omega
      have q7 : (c.toNat : Int) % 16 < 16 := by omega
      have q8 : (0 : Int) ≤ (c.toNat : Int) % 16 := by omega
      have HX := Hid.mk (hexS_take hc)
      have HL := Hid.mk hlen
      clear hc hlen
      go_wp2_with fail
      simp only [hex_at _ q1]
      refine (bd_byte HB.out (hexC (c.toNat / 16)) (by have := HL.out; omega)).mono ?_
      rintro e w2 ⟨rfl, h2, oth2⟩
      have HB2 := Hid.mk h2
      clear h2 HB
      go_wp2_with fail
      simp only [hex_at _ q2]
      refine (bd_byte HB2.out (hexC (c.toNat % 16)) (by have := HL.out; rw [List.length_append]; simp only [List.length_singleton]; omega)).mono ?_
      rintro e w3 ⟨rfl, h3, oth3⟩
      have HB3 := Hid.mk h3
      clear h3 HB2
      go_wp2_with fail
      go_roundw
      case rel => exact ⟨j + 1, by go_num, by omega, by rw [HX.out]; simpa using HB3⟩
      case measure => simp [intOf]; omega
    · have hjI : ¬ (j : Int) < (s.length : Int) := by omega
      obtain rfl : j = s.length := by omega
      rw [List.take_length] at HB hlen
      have HL := Hid.mk hlen
      clear hlen
      go_wp2_with fail
      refine (bd_byte HB.out 10 (by have := HL.out; omega)).mono ?_
      rintro e w2 ⟨rfl, h2, oth2⟩
      have HB2 := Hid.mk h2
      clear h2
      go_wp2_with fail
      go_end0
      exact ⟨rfl, by simpa using HB2.out⟩
set_option maxHeartbeats 1000000 in
theorem printInstr25 (hB : Bd W b l w) (hG : Glob W) (x : In) {i k : Nat} {s : List UInt8} (hx : x.op = (i : Int)) (hw : words[i]? = some (s, k)) (hk : k ≤ 5) (hs : s.length ≤ 10) (ha : I64 x.arg) (hl : l.length ≤ 100000) : Calls Tryz.prog 14 #[.pointer (some ⟨b, 0, none⟩), .agg #[.int .i64 x.op, .int .i64 x.arg]] w fun e w' => e = .returned (.tuple #[]) ∧ Bd W b (l ++ (wline s k x.arg ++ [10])) w' := by
  rw [hx]
  generalize x.arg = arg at *
  obtain ⟨W0, e0, k0, hz0, hb0⟩ := box1 w (.cells #[.int .i64 (i : Int), .int .i64 arg] 45)
  obtain ⟨y0, y1⟩ := cells2 hb0
  have hi : i < 24 := (List.getElem?_eq_some_iff.1 hw).1
  have hI0 : (0 : Int) ≤ (i : Int) := by omega
  have hI3 : (i : Int) < 24 := by omega
  have HO : Hid (∀ V, Kept [] W V → V.cell? ⟨0, i * 2, none⟩ = some (.string ⟨s.toArray⟩) ∧ V.cell? ⟨0, i * 2 + 1, none⟩ = some (.int .i64 (k : Int))) := fun V k => by rw [Nat.mul_comm]; exact (hG.kept k).ops i _ _ hw
  have HB := Hid.mk (hB.keep k0)
  have HGk : Hid (∀ V, Kept [] W V → Calls Tryz.prog 34 #[.int .i64 arg, .int .i64 10] V fun e w' => e = .returned (.string ⟨(itoa arg).toArray⟩) ∧ Kept [] V w') := fun V k => (strconv_FormatInt_10 arg ha.1 ha.2 V (hG.kept k).tab).mono fun e w' h => ⟨h.1, grown_kept h.2⟩
  have o1 := (HO.out W0 HB.out.kept).1
  have o2 := (HO.out W0 HB.out.kept).2
  have hbn : w.heap.size ≠ b := by have := hB.lt; omega
  have HBX := Hid.mk hb0
  clear hb0 k0 hz0 hG hw hB
  by_cases hk0 : k = 0
  · subst hk0
    have e9 : wline s 0 arg = s := by unfold wline; rw [if_pos rfl]
    rw [e9]
    clear e9
    go_enter Tryz.func14, Tryz.ntmps14
    go_wp2_with fail
    refine (bd_string HB.out s (by omega)).mono ?_
    rintro e w2 ⟨rfl, h2, oth2⟩
    have HB2 := Hid.mk h2
    have o2' := (HO.out w2 h2.kept).2
    obtain ⟨y0', y1'⟩ := cells2 (oth2 _ _ _ HBX.out hbn (by decide))
    clear h2 y0 y1 o1 o2 oth2
    go_wp2_with fail
    refine (bd_byte HB2.out 10 (by rw [List.length_append]; omega)).mono ?_
    rintro e w3 ⟨rfl, h3, -⟩
    have HB3 := Hid.mk h3
    clear h3
    go_wp2_with fail
    go_end0
    exact ⟨rfl, by simpa using HB3.out⟩
  · have e9 : wline s k arg = s ++ 32 :: itoa arg := by unfold wline; rw [if_neg hk0]
    rw [e9]
    clear e9
    have t0 : ((k : Int) != 0) = true := by simpa using hk0
    have hit : (itoa arg).length ≤ 100 := itoa_len ha
    generalize itoa arg = q at *
    have hcat : (⟨#[32]⟩ : ByteArray) ++ ⟨q.toArray⟩ = ⟨(32 :: q).toArray⟩ := by
      apply ByteArray.ext
      simp
    go_enter Tryz.func14, Tryz.ntmps14
    go_wp2_with fail
    refine (bd_string HB.out s (by omega)).mono ?_
    rintro e w2 ⟨rfl, h2, oth2⟩
    have HB2 := Hid.mk h2
    have o2' := (HO.out w2 h2.kept).2
    have HBX2 := Hid.mk (oth2 _ _ _ HBX.out hbn (by decide))
    obtain ⟨y0', y1'⟩ := cells2 HBX2.out
    clear h2 y0 y1 o1 o2 oth2
    go_wp2_with fail
    refine (HGk.out w2 HB2.out.kept).mono ?_
    rintro e w3 ⟨rfl, k3⟩
    have HB3 := Hid.mk (HB2.out.keep k3)
    clear k3
    go_wp2_with fail
    refine (bd_string HB3.out (32 :: q) (by rw [List.length_append, List.length_cons]; omega)).mono ?_
    rintro e w4 ⟨rfl, h4, -⟩
    have HB4 := Hid.mk h4
    clear h4
    go_wp2_with fail
    refine (bd_byte HB4.out 10 (by rw [List.length_append, List.length_append, List.length_cons]; omega)).mono ?_
    rintro e w5 ⟨rfl, h5, -⟩
    have HB5 := Hid.mk h5
    clear h5
    go_wp2_with fail
    go_end0
    exact ⟨rfl, by simpa using HB5.out⟩
end
end Go.Proofs.YtibapmjgpnldgaaGreatDoor
