/-
  The document's Unhex.
-/
import Derived.Test.YtibapmjgpnldgaaDoorDi
import Derived.Test.YtibapmjgpnldgaaDoorSa
import Derived.Test.YtibapmjgpnldgaaDoorPn
import Derived.Deep.RegionHeld3
namespace Go.Proofs.YtibapmjgpnldgaaDoor
open Go.RowKit
set_option maxRecDepth 100000
set_option linter.unusedVariables false
/-- The key of digits. -/
def unhexK (s : List UInt8) : Option (List UInt8) := (unhexS s).bind fun k => if isKey k = true then some k else none
/-- What Unhex answers. -/
def UnAt (s : List UInt8) (e : Ending) : Prop := (∃ k, unhexK s = some k ∧ e = .returned (.tuple #[.string ⟨k.toArray⟩, .bool true])) ∨ (unhexK s = none ∧ ∃ k : List UInt8, e = .returned (.tuple #[.string ⟨k.toArray⟩, .bool false]))
theorem add_digs {x y : Nat} (hx : x < 16) (hy : y < 16) : (16 * (x : Int) + (y : Int)) % 256 = ((UInt8.ofNat (16 * x + y)).toNat : Int) := by
  simp
section
variable {w : World}
set_option maxHeartbeats 4000000 in
theorem unhex66 (s : List UInt8) (hs : s.length ≤ 100000) : Calls Tryd.prog 66 #[.string ⟨s.toArray⟩] w fun e w' => UnAt s e ∧ Kept [] w w' := by
  have hz : (⟨s.toArray⟩ : ByteArray).size = s.length := by simp [ByteArray.size]
  obtain ⟨R, HR'⟩ : ∃ R, Hid (R = unhexK s) := ⟨_, rfl⟩
  have HA : Hid (∀ e, UnAt s e ↔ ((∃ k, R = some k ∧ e = .returned (.tuple #[.string ⟨k.toArray⟩, .bool true])) ∨ (R = none ∧ ∃ k : List UInt8, e = .returned (.tuple #[.string ⟨k.toArray⟩, .bool false])))) := fun e => by unfold UnAt; rw [← HR'.out]
  generalize UnAt s = NA at *
  unfold unhexK at HR'
  have HD : Hid (∀ (c : UInt8) W, Calls Tryd.prog 83 #[.int .u8 (c.toNat : Int)] W fun e w' => e = .returned (.int .i64 (digI c)) ∧ W = w') := fun c W => digit83 c
  go_enter Tryd.func66, Tryd.ntmps66
  go_wp2_with fail
  go_loopw [4, 5] (fun v i wr => ∃ (m : Nat) (X : List UInt8), Hid (Out 5 1 w wr v (rowB X)) ∧ i = .int .i64 (m : Int) ∧ m ≤ s.length ∧ Hid (m = 2 * X.length) ∧ Hid (unhexS s = (unhexS (s.drop m)).map fun r => X ++ r)) (fun _ i _ => s.length - (intOf i).toNat)
  case atStart => exact ⟨0, [], Hid.mk (Out.nil (Kept.refl [] w)), rfl, by omega, Hid.mk rfl, Hid.mk (by simp)⟩
  case round =>
    obtain ⟨m, X, HO, rfl, hj, HXl, HU⟩ := hrel
    by_cases hlt : m + 1 < s.length
    · have hjI : (m : Int) + 1 < (s.length : Int) := by omega
      have hjJ : (m : Int) < (s.length : Int) := by omega
      have hj0 : (0 : Int) ≤ (m : Int) := by omega
      have hj1 : (0 : Int) ≤ (m : Int) + 1 := by omega
      have hjN : m < s.length := by omega
      have hw1 : IntKind.i64.wrap ((m : Int) + 1) = (m : Int) + 1 := by rw [IntKind.wrap_i64]; omega
      have htn : ((m : Int) + 1).toNat = m + 1 := by omega
      obtain ⟨a, b, ha, hb, hu⟩ := unhex_drop (q := s) (j := m) (by omega)
      have hA : ∀ h, (⟨s.toArray⟩ : ByteArray)[m]'h = a := fun h => byte_at ha h
      have hB : ∀ h, (⟨s.toArray⟩ : ByteArray)[m + 1]'h = b := fun h => byte_at hb h
      have HCa := Hid.mk (HD.out a)
      have HCb : Hid (∀ W, True → _) := fun W (_ : True) => HD.out b W
      have HU2 := Hid.mk hu
      clear hu ha hb HD
      generalize hda : digI a = da at *
      generalize hdb : digI b = db at *
      have HDA := Hid.mk hda
      have HDB := Hid.mk hdb
      clear hda hdb
      go_wp2_with fail
      go_region_held3 (fun V => True) (trivial) (first | (go_at_call 83; (with_reducible refine (HCb.out _ T1.out).mono ?_); rintro e w2 ⟨rfl, rfl⟩) | (go_at_call 83; (with_reducible refine (HCa.out _).mono ?_); rintro e w2 ⟨rfl, rfl⟩; have T1 : Hid True := trivial))
      all_goals
        have HO1 := Hid.mk (HO.out.keep (Kept.refl [] wr).drew)
        cases hx : digC a with
        | none =>
          have HN : Hid (R = none) := by show _ = _; rw [HR'.out, HU.out, HU2.out, hx]; rfl
          obtain rfl : da = -1 := by rw [← HDA.out]; exact digI_none hx
          clear HU HU2 hx HR' HDA HDB
          go_wp2_with fail
          go_ret2
          exact ⟨(HA.out _).2 (.inr ⟨HN.out, [], rfl⟩), HO1.out.kept⟩
        | some x =>
          obtain ⟨-, lx⟩ := digC_own hx
          obtain rfl : da = (x : Int) := by rw [← HDA.out]; exact digI_some hx
          have lx' : ¬ ((x : Int) < 0) := by omega
          cases hy : digC b with
          | none =>
            have HN : Hid (R = none) := by show _ = _; rw [HR'.out, HU.out, HU2.out, hx, hy]; rfl
            obtain rfl : db = -1 := by rw [← HDB.out]; exact digI_none hy
            clear HU HU2 hx hy HR' HDA HDB
            go_wp2_with fail
            go_ret2
            exact ⟨(HA.out _).2 (.inr ⟨HN.out, [], rfl⟩), HO1.out.kept⟩
          | some y =>
            obtain ⟨-, ly⟩ := digC_own hy
            obtain rfl : db = (y : Int) := by rw [← HDB.out]; exact digI_some hy
            have ly' : ¬ ((y : Int) < 0) := by omega
            obtain ⟨q, HQ⟩ : ∃ q, Hid (UInt8.ofNat (16 * x + y) = q) := ⟨_, rfl⟩
            have hB8 : B8 q = .int .u8 (16 * (x : Int) + (y : Int)) := by
              unfold B8
              rw [← HQ.out, ← add_digs lx ly]
              congr 1
              omega
            have hw3 : IntKind.i64.wrap (16 * (x : Int)) = 16 * (x : Int) := by rw [IntKind.wrap_i64]; omega
            have hw4 : IntKind.i64.wrap (16 * (x : Int) + (y : Int)) = 16 * (x : Int) + (y : Int) := by rw [IntKind.wrap_i64]; omega
            have HU3 : Hid (unhexS s = (unhexS (s.drop (m + 2))).map fun r => (X ++ [q]) ++ r) := by
              show _ = _
              rw [HU.out, HU2.out, hx, hy, ← HQ.out]
              cases unhexS (s.drop (m + 2)) <;> simp
            obtain ⟨ad, cc, w3, hrun, hO3⟩ := HO1.out.more rt45 [B8 q] rfl (by simp [B8, Value.oneCell']) (by rw [rowB_length]; have := HXl.out; omega) 5 (0, 0) 45
            have HO3 := Hid.mk hO3
            have e3 : rowB (X ++ [q]) = rowB X ++ [[B8 q]] := by simp [rowB]
            rw [← e3] at HO3
            have HL3 : Hid (m + 2 = 2 * (X ++ [q]).length) := by show _ = _; rw [List.length_append, HXl.out]; simp; omega
            rw [hB8] at hrun
            generalize (rowB X).length + 1 = n3 at *
            clear hx hy HU HU2 HO HO1 hO3 e3 HDA HDB hB8
            go_wp2_with (at_builtin; refine wpList_append_run 45 45 (.tmp 30) (.tmp 36) rfl (by rfl) _ _ rfl rfl _ _ hrun ?_)
            go_roundw
            case rel => exact ⟨m + 2, X ++ [q], HO3, by go_num, by omega, HL3, HU3⟩
            case measure => simp [intOf]; omega
    · have hjI : ¬ (m : Int) + 1 < (s.length : Int) := by omega
      have HI := Hid.mk (fun W => key32 (w := W) X (by have := HXl.out; omega))
      have hcv : ∀ z : KW wr, (convert 45 9 u4).run Tryd.prog z.w = .ok (.string ⟨X.toArray⟩) z.w := fun z => string_of (P := Tryd.prog) 45 5 Tryd.underlying45 9 Tryd.underlying5 Tryd.underlying9 u4 X z.w (HO.out.keep z.k).bytes.reads
      by_cases hev : s.length % 2 = 0
      · have t2 : ((s.length : Int) % 2 == 0) = true := by simp; omega
        have e0 : s.drop m = [] := List.drop_eq_nil_of_le (by have := HXl.out; omega)
        have HR2 : Hid (R = if isKey X = true then some X else none) := by
          show _ = _
          rw [HR'.out, HU.out, e0]
          simp [unhexS]
        clear HR' HU e0 HD hev
        cases hk : isKey X with
        | true =>
          rw [hk] at HI
          rw [hk, if_pos rfl] at HR2
          clear hk
          go_wp2_with fail
          refine wp_region_kw (C := fun W => ∃ z : KW wr, W = z.w) (by kernel_rfl) (by kernel_rfl) ⟨⟨wr.drew, (Kept.refl [] wr).drew⟩, rfl⟩ ?_
          repeat (go_big_quiet_step (first | (go_at_call 32; exact calls_kw ((HI.out _).mono fun e w' h => ⟨h.1, by rw [← h.2]; exact Kept.refl [] _⟩)) | fail))
          refine wpQuiet_nil ?_
          rintro _ ⟨z, rfl⟩
          have HZ := Hid.mk (HO.out.keep z.k).kept
          go_wp2_with fail
          go_ret2
          exact ⟨(HA.out _).2 (.inl ⟨X, HR2.out, rfl⟩), HZ.out⟩
        | false =>
          rw [hk] at HI
          rw [hk, if_neg (by simp)] at HR2
          clear hk
          go_wp2_with fail
          refine wp_region_kw (C := fun W => ∃ z : KW wr, W = z.w) (by kernel_rfl) (by kernel_rfl) ⟨⟨wr.drew, (Kept.refl [] wr).drew⟩, rfl⟩ ?_
          repeat (go_big_quiet_step (first | (go_at_call 32; exact calls_kw ((HI.out _).mono fun e w' h => ⟨h.1, by rw [← h.2]; exact Kept.refl [] _⟩)) | fail))
          refine wpQuiet_nil ?_
          rintro _ ⟨z, rfl⟩
          have HZ := Hid.mk (HO.out.keep z.k).kept
          go_wp2_with fail
          go_ret2
          exact ⟨(HA.out _).2 (.inr ⟨HR2.out, X, rfl⟩), HZ.out⟩
      · have t2 : ((s.length : Int) % 2 == 0) = false := by simp; omega
        have HN : Hid (R = none) := by
          show _ = _
          have hl1 : (s.drop m).length = 1 := by rw [List.length_drop]; have := HXl.out; omega
          obtain ⟨x, hx⟩ := List.length_eq_one_iff.1 hl1
          rw [HR'.out, HU.out, hx]
          simp [unhexS]
        clear HR' HU HD hev
        go_wp2_with fail
        refine wp_region_kw (C := fun W => ∃ z : KW wr, W = z.w) (by kernel_rfl) (by kernel_rfl) ⟨⟨wr.drew, (Kept.refl [] wr).drew⟩, rfl⟩ ?_
        repeat (go_big_quiet_step (first | (go_at_call 32; exact calls_kw ((HI.out _).mono fun e w' h => ⟨h.1, by rw [← h.2]; exact Kept.refl [] _⟩)) | fail))
        refine wpQuiet_nil ?_
        rintro _ ⟨z, rfl⟩
        have HZ := Hid.mk (HO.out.keep z.k).kept
        go_wp2_with fail
        go_ret2
        exact ⟨(HA.out _).2 (.inr ⟨HN.out, X, rfl⟩), HZ.out⟩
end
end Go.Proofs.YtibapmjgpnldgaaDoor
