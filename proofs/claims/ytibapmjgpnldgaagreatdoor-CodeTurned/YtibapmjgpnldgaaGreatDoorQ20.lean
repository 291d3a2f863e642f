import Derived.Test.YtibapmjgpnldgaaGreatDoorQ03
import Derived.Test.YtibapmjgpnldgaaGreatDoorQ16
import Derived.Test.YtibapmjgpnldgaaGreatDoorQ18
import Derived.Test.YtibapmjgpnldgaaGreatDoorQ19
/-
  parseName.
-/
namespace Go.Proofs.YtibapmjgpnldgaaGreatDoor
open Go.RowKit
set_option maxRecDepth 100000
set_option linter.unusedVariables false
/-- Bytes as a row. -/
def rowB (l : List UInt8) : List (List Value) := l.map fun b => [B8 b]
theorem rowB_length (l : List UInt8) : (rowB l).length = l.length := by simp [rowB]
theorem rowB_flat (l : List UInt8) : (rowB l).flatten = C8 l := by
  induction l with
  | nil => rfl
  | cons b l ih => simp [rowB, C8] at ih ⊢; exact ih
theorem Out.bytes {w wr : World} {u : Value} {l : List UInt8} (h : Out 5 1 w wr u (rowB l)) : Owns 5 wr u l := by
  have := h.own
  unfold OwnsR at this
  rw [rowB_flat, rowB_length] at this
  exact this
theorem unhex_drop {q : List UInt8} {j : Nat} (hj : j + 1 < q.length) : ∃ a b, q[j]? = some a ∧ q[j + 1]? = some b ∧ unhexS (q.drop j) = (digC a).bind fun x => (digC b).bind fun y => (unhexS (q.drop (j + 2))).map fun r => UInt8.ofNat (16 * x + y) :: r := by
  have h1 : q.drop j = q[j] :: q[j + 1] :: q.drop (j + 2) := by
    rw [List.drop_eq_getElem_cons (by omega), List.drop_eq_getElem_cons (by omega)]
  exact ⟨q[j], q[j + 1], by simp, by simp, by rw [h1, unhexS]⟩
theorem or_digs : ∀ x, x < 16 → ∀ y, y < 16 → bits BinOp.or IntKind.i64 ((x : Nat) * 16 : Int) (y : Nat) % 256 = ((UInt8.ofNat (16 * x + y)).toNat : Int) := by decide +kernel
theorem byte_at {q : List UInt8} {i : Nat} {a : UInt8} (ha : q[i]? = some a) (h : i < (⟨q.toArray⟩ : ByteArray).size) : (⟨q.toArray⟩ : ByteArray)[i]'h = a := by
  obtain ⟨h1, h2⟩ := List.getElem?_eq_some_iff.1 ha
  simpa [ByteArray.getElem_eq_getElem_data] using h2
theorem digI_none {c : UInt8} (h : digC c = none) : digI c = -1 := by unfold digI; rw [h]
theorem digI_some {c : UInt8} {d : Nat} (h : digC c = some d) : digI c = (d : Int) := by unfold digI; rw [h]
section
variable {w : World}
theorem cut35 (hG : Glob w) (c : UInt8) (s : List UInt8) (hs : s.length ≤ 100000) : Calls Tryz.prog 27 #[.string ⟨s.toArray⟩, .string ⟨#[c]⟩] w fun e w' => e = .returned (.tuple #[.string ⟨(cutC c s).1.toArray⟩, .string ⟨(cutC c s).2.1.toArray⟩, .bool (cutC c s).2.2]) ∧ Kept [] w w' := by
  have hz : (⟨s.toArray⟩ : ByteArray).size = s.length := by simp [ByteArray.size]
  obtain ⟨m, hm⟩ := hG.mx
  refine (strings_Cut ⟨s.toArray⟩ ⟨#[c]⟩ m w (by omega) hm).mono ?_
  rintro e w' ⟨rfl, n, rfl⟩
  have ec : Lib.cut (⟨s.toArray⟩ : ByteArray).data.toList (⟨#[c]⟩ : ByteArray).data.toList = cutC c s := by
    simpa using cut_cutC c s
  rw [ec]
  exact ⟨rfl, (Kept.refl [] w).drewN n⟩
theorem hex63 (c : UInt8) : Calls Tryz.prog 55 #[.string ⟨#[48, 49, 50, 51, 52, 53, 54, 55, 56, 57, 97, 98, 99, 100, 101, 102]⟩, .int .u8 (c.toNat : Int)] w fun e w' => e = .returned (.int .i64 (digI c)) ∧ w = w' := by
  refine (strings_IndexByte _ _ w).mono ?_
  rintro e w' ⟨rfl, rfl⟩
  refine ⟨?_, rfl⟩
  have h := hex_index c.toNat c.toNat_lt
  rw [show UInt8.ofNat c.toNat = c by simp] at h
  rw [← h]
  simp [hexT]
/-- What parseName answers. -/
def NameAt (s : List UInt8) (e : Ending) : Prop := (∃ k, nameP s = some k ∧ e = .returned (.tuple #[.string ⟨k.toArray⟩, .bool true])) ∨ (nameP s = none ∧ ∃ k : List UInt8, e = .returned (.tuple #[.string ⟨k.toArray⟩, .bool false]))
set_option maxHeartbeats 1000000 in
theorem parseName36 (hG : Glob w) (s : List UInt8) (hs : s.length ≤ 100000) : Calls Tryz.prog 28 #[.string ⟨s.toArray⟩] w fun e w' => NameAt s e ∧ Kept [] w w' := by
  have HC := Hid.mk (cut35 hG 32 s hs)
  obtain ⟨-, hln, -⟩ := cutC_length 32 s
  obtain ⟨R, HR⟩ : ∃ R, Hid (R = nameP s) := ⟨_, rfl⟩
  have HA : Hid (∀ e, NameAt s e ↔ ((∃ k, R = some k ∧ e = .returned (.tuple #[.string ⟨k.toArray⟩, .bool true])) ∨ (R = none ∧ ∃ k : List UInt8, e = .returned (.tuple #[.string ⟨k.toArray⟩, .bool false])))) := fun e => by unfold NameAt; rw [← HR.out]
  generalize NameAt s = NA at *
  have HR' := Hid.mk HR.out
  clear HR
  unfold nameP at HR'
  generalize (cutC 32 s).1 = wd at *
  generalize (cutC 32 s).2.1 = dg at *
  generalize (cutC 32 s).2.2 = bl at *
  have hz : (⟨dg.toArray⟩ : ByteArray).size = dg.length := by simp [ByteArray.size]
  clear hG
  by_cases h1 : wd = [110, 97, 109, 101]
  · subst h1
    by_cases h2 : dg.length % 2 = 0
    · have t2 : ((dg.length : Int) % 2 != 0) = false := by simp; omega
      rw [if_pos ⟨rfl, h2⟩] at HR'
      have HX : Hid (∀ (c : UInt8) W, Calls Tryz.prog 55 #[.string ⟨#[48, 49, 50, 51, 52, 53, 54, 55, 56, 57, 97, 98, 99, 100, 101, 102]⟩, .int .u8 (c.toNat : Int)] W fun e w' => e = .returned (.int .i64 (digI c)) ∧ W = w') := fun c W => hex63 c
      go_enter Tryz.func28, Tryz.ntmps28
      go_wp2_with fail
      refine HC.out.mono ?_
      rintro e w1 ⟨rfl, k1⟩
      have HK1 := Hid.mk k1
      clear k1
      go_wp2_with fail
      go_loopw [7, 8] (fun v i wr => ∃ (j : Nat) (X : List UInt8), Hid (Out 5 1 w1 wr v (rowB X)) ∧ i = .int .i64 (2 * j : Int) ∧ 2 * j ≤ dg.length ∧ Hid (X.length = j) ∧ Hid (unhexS dg = (unhexS (dg.drop (2 * j))).map fun r => X ++ r)) (fun _ i _ => dg.length - (intOf i).toNat)
      case atStart => exact ⟨0, [], Hid.mk (Out.nil (Kept.refl [] w1)), rfl, by omega, Hid.mk rfl, Hid.mk (by simp)⟩
      case round =>
        obtain ⟨j, X, HO, rfl, hj, HXl, HU⟩ := hrel
        by_cases hlt : 2 * j < dg.length
        · have hjI : (2 * (j : Int)) < (dg.length : Int) := by omega
          have hj0 : (0 : Int) ≤ 2 * (j : Int) := by omega
          have hj1 : (2 * (j : Int)) + 1 < (dg.length : Int) := by omega
          obtain ⟨a, b, ha, hb, hu⟩ := unhex_drop (q := dg) (j := 2 * j) (by omega)
          have hA : ∀ h, (⟨dg.toArray⟩ : ByteArray)[2 * j]'h = a := fun h => byte_at ha h
          have hB : ∀ h, (⟨dg.toArray⟩ : ByteArray)[2 * j + 1]'h = b := fun h => byte_at hb h
          have HHA := Hid.mk hA
          have HHB := Hid.mk hB
          have HCa := Hid.mk (HX.out a wr)
          have HCb := Hid.mk (HX.out b wr)
          have HU2 := Hid.mk hu
          clear hu hA hB HX ha hb
          cases hx : digC a with
          | none =>
            have HN : Hid (R = none) := by show _ = _; rw [HR'.out, HU.out, HU2.out, hx]; rfl
            rw [digI_none hx] at HCa
            clear HU HU2 hx HR'
            generalize hyb : digI b = db at *
            clear hyb
            go_wp2_with fail
            simp only [HHA.out]
            refine HCa.out.mono ?_
            rintro e w2 ⟨rfl, rfl⟩
            go_wp2_with fail
            simp only [HHB.out]
            refine HCb.out.mono ?_
            rintro e w2 ⟨rfl, rfl⟩
            go_wp2_with fail
            go_ret2
            exact ⟨(HA.out _).2 (.inr ⟨HN.out, [], rfl⟩), HK1.out.then HO.out.kept⟩
          | some x =>
            obtain ⟨-, lx⟩ := digC_own hx
            rw [digI_some hx] at HCa
            cases hy : digC b with
            | none =>
              have HN : Hid (R = none) := by show _ = _; rw [HR'.out, HU.out, HU2.out, hx, hy]; rfl
              rw [digI_none hy] at HCb
              have lx' : ¬ ((x : Int) < 0) := by omega
              clear HU HU2 hx hy HR'
              go_wp2_with fail
              simp only [HHA.out]
              refine HCa.out.mono ?_
              rintro e w2 ⟨rfl, rfl⟩
              go_wp2_with fail
              simp only [HHB.out]
              refine HCb.out.mono ?_
              rintro e w2 ⟨rfl, rfl⟩
              go_wp2_with fail
              go_ret2
              exact ⟨(HA.out _).2 (.inr ⟨HN.out, [], rfl⟩), HK1.out.then HO.out.kept⟩
            | some y =>
              obtain ⟨-, ly⟩ := digC_own hy
              rw [digI_some hy] at HCb
              have lx' : ¬ ((x : Int) < 0) := by omega
              have ly' : ¬ ((y : Int) < 0) := by omega
              obtain ⟨q, HQ⟩ : ∃ q, Hid (UInt8.ofNat (16 * x + y) = q) := ⟨_, rfl⟩
              have hv : bits BinOp.or IntKind.i64 ((x : Int) * 16) (y : Int) % 256 = (q.toNat : Int) := by rw [← HQ.out]; exact or_digs x lx y ly
              have HU3 : Hid (unhexS dg = (unhexS (dg.drop (2 * (j + 1)))).map fun r => (X ++ [q]) ++ r) := by
                show _ = _
                rw [HU.out, HU2.out, hx, hy, ← HQ.out, show 2 * (j + 1) = 2 * j + 2 by omega]
                cases unhexS (dg.drop (2 * j + 2)) <;> simp
              obtain ⟨ad, cc, w3, hrun, hO3⟩ := HO.out.more rt45 [B8 q] rfl (by simp [B8, Value.oneCell']) (by rw [rowB_length, HXl.out]; omega) 5 (0, 0) 35
              have HO3 := Hid.mk hO3
              have e3 : rowB (X ++ [q]) = rowB X ++ [[B8 q]] := by simp [rowB]
              rw [← e3] at HO3
              have hl3 : (X ++ [q]).length = j + 1 := by simp [HXl.out]
              have HL3 := Hid.mk hl3
              generalize (rowB X).length + 1 = n3 at *
              clear hx hy HU HU2 HO hO3 e3 hl3
              go_wp2_with fail
              simp only [HHA.out]
              refine HCa.out.mono ?_
              rintro e w2 ⟨rfl, rfl⟩
              go_wp2_with fail
              simp only [HHB.out]
              refine HCb.out.mono ?_
              rintro e w2 ⟨rfl, rfl⟩
              go_wp2_with (at_builtin; refine wpList_append_run 35 35 (.tmp 47) (.tmp 53) rfl (by rfl) _ _ rfl rfl _ _ hrun ?_)
              go_roundw
              case rel => exact ⟨j + 1, X ++ [q], HO3, by go_num, by omega, HL3, HU3⟩
              case measure => simp [intOf]; omega
        · have hjI : ¬ (2 * (j : Int)) < (dg.length : Int) := by omega
          have e0 : dg.drop (2 * j) = [] := List.drop_eq_nil_of_le (by omega)
          have HR2 : Hid (R = if isKey X = true then some X else none) := by
            show _ = _
            rw [HR'.out, HU.out, e0]
            simp [unhexS]
          have hcv := string_of (P := Tryz.prog) 35 5 Tryz.underlying35 9 Tryz.underlying5 Tryz.underlying9 u7 X wr HO.out.bytes.reads
          have HI := Hid.mk (isKey30 (w := wr) X (by rw [HXl.out]; omega))
          clear HR' HU e0 HX
          cases hk : isKey X with
          | true =>
            rw [hk] at HI
            rw [hk, if_pos rfl] at HR2
            clear hk
            go_wp2_with fail
            refine HI.out.mono ?_
            rintro e w2 ⟨rfl, rfl⟩
            go_wp2_with fail
            go_ret2
            exact ⟨(HA.out _).2 (.inl ⟨X, HR2.out, rfl⟩), HK1.out.then HO.out.kept⟩
          | false =>
            rw [hk] at HI
            rw [hk, if_neg (by simp)] at HR2
            clear hk
            go_wp2_with fail
            refine HI.out.mono ?_
            rintro e w2 ⟨rfl, rfl⟩
            go_wp2_with fail
            go_ret2
            exact ⟨(HA.out _).2 (.inr ⟨HR2.out, X, rfl⟩), HK1.out.then HO.out.kept⟩
    · have t2 : ((dg.length : Int) % 2 != 0) = true := by simp; omega
      have HN : Hid (R = none) := by show _ = _; rw [HR'.out, if_neg (fun h => h2 h.2)]
      clear HR'
      go_enter Tryz.func28, Tryz.ntmps28
      go_wp2_with fail
      refine HC.out.mono ?_
      rintro e w1 ⟨rfl, k1⟩
      go_wp2_with fail
      go_ret2
      exact ⟨(HA.out _).2 (.inr ⟨HN.out, [], rfl⟩), k1⟩
  · have t1 : (wd == [110, 97, 109, 101]) = false := by simpa using h1
    have t1' : (wd != [110, 97, 109, 101]) = true := by simpa using h1
    have HN : Hid (R = none) := by show _ = _; rw [HR'.out, if_neg (fun h => h1 h.1)]
    clear HR'
    go_enter Tryz.func28, Tryz.ntmps28
    go_wp2_with fail
    refine HC.out.mono ?_
    rintro e w1 ⟨rfl, k1⟩
    go_wp2_with fail
    go_ret2
    exact ⟨(HA.out _).2 (.inr ⟨HN.out, [], rfl⟩), k1⟩
end
end Go.Proofs.YtibapmjgpnldgaaGreatDoor
