import Derived.Deep.RegionHeld3
import Derived.Test.YtibapmjgpnldgaaGreatDoorQ20
import Derived.Test.YtibapmjgpnldgaaGreatDoorQ26
import Derived.Test.YtibapmjgpnldgaaGreatDoorQ27
import Derived.Test.YtibapmjgpnldgaaGreatDoorQ28
import Derived.Test.YtibapmjgpnldgaaGreatDoorQ30
import Derived.Test.YtibapmjgpnldgaaGreatDoorQ34
import Derived.Test.YtibapmjgpnldgaaGreatDoorQ35
/-
  CodeEncodes: the walk.
-/
namespace Go.Proofs.YtibapmjgpnldgaaGreatDoor
open Go.RowKit
set_option maxRecDepth 100000
set_option linter.unusedVariables false
/-- The bytes that Encode answers. -/
def encB (p : Pg) : List UInt8 := if formedP p = true then encPg p else []
def encE (p : Pg) : Int := if formedP p = true then 0 else 1
/-- The program that Decode answers. -/
def decQ (l : List UInt8) : Pg := (decPg l).getD ⟨[], []⟩
def decE (l : List UInt8) : Int := if (decPg l).isSome = true then 0 else 2
theorem EncAt.any {w w' : World} {p : Pg} {e : Ending} (h : EncAt w p e w') : ∃ (a : Option Addr) (n c : Nat), e = .returned (.tuple #[.slice a n c, .int .i64 (encE p)]) ∧ Reads w' (.slice a n c) (encB p) ∧ Kept [] w w' := by
  rcases h with ⟨h, he, k⟩ | ⟨h, v, he, hO, k, -⟩
  · unfold encE encB
    rw [h]
    exact ⟨none, 0, 0, he, Reads.nil _, k⟩
  · unfold encE encB
    rw [h]
    obtain ⟨a, c, rfl⟩ := hO.form
    exact ⟨a, _, c, he, hO.reads, k⟩
theorem isP_none (w : World) : IsP w (.slice none 0 0) (.slice none 0 0) ⟨[], []⟩ := ⟨(OwnsR.nil 9 1 w).reads (wideN []), (OwnsR.nil 53 2 w).reads (wideI [])⟩
theorem DecAt.any {w w' : World} {l : List UInt8} {e : Ending} (h : DecAt w l e w') : ∃ (a b : Option Addr) (c d : Nat), e = .returned (.tuple #[.agg #[.slice a (decQ l).names.length c, .slice b (decQ l).code.length d], .int .i64 (decE l)]) ∧ IsP w' (.slice a (decQ l).names.length c) (.slice b (decQ l).code.length d) (decQ l) ∧ Kept [] w w' := by
  rcases h with ⟨h, he, k⟩ | ⟨p, v, u, h, he, hI, k⟩
  · unfold decE decQ
    rw [h]
    exact ⟨none, none, 0, 0, he, isP_none _, k⟩
  · unfold decE decQ
    rw [h]
    obtain ⟨a, c, b, d, rfl, rfl, -, -⟩ := hI.form
    exact ⟨a, b, c, d, he, hI, k⟩
theorem decQ_small (l : List UInt8) : (decQ l).names.length ≤ 8 ∧ (decQ l).code.length ≤ 200 := by
  unfold decQ
  cases h : decPg l with
  | none => exact ⟨by decide, by decide⟩
  | some p => exact ⟨(formed_parts (decPg_fwd h).2.1).1, (formed_parts (decPg_fwd h).2.1).2.1⟩
section
variable {w : World}
set_option maxHeartbeats 8000000 in
theorem encodes_walk {v vb : Value} {p : Pg} {l : List UInt8} (hP : PgIn w v p) (hG : Glob w) (hr : Reads w vb l) (hll : l.length ≤ 140737488351232) (hin : Inside w vb) : Calls Tryz.prog 10 #[v, vb] w fun e w' => e = .returned (.bool true) ∧ Kept [] w w' := by
  obtain ⟨⟨v1, u1, rfl, hI⟩, hK, hC⟩ := hP
  have hO : OkP p := fun x hx => (hC x hx).2
  obtain ⟨av, cv, bv, dv, rfl, rfl, -, -⟩ := hI.form
  obtain ⟨W0, e0, k0, hz0, hb0⟩ := box1 w (.cells #[.slice av p.names.length cv, .slice bv p.code.length dv] 25)
  have HAw : Hid (∀ W, Kept [] W0 W → Calls Tryz.prog 4 #[] W fun e w' => e = .returned (.bool true) ∧ Kept [] W w') := fun W k => awake8 (hG.kept (k0.then k))
  have HFw : Hid (∀ W, Kept [] W0 W → Calls Tryz.prog 5 #[.agg #[.slice av p.names.length cv, .slice bv p.code.length dv]] W fun e w' => FewAt p e ∧ Kept [] W w') := fun W k => few9 (hI.keep (k0.then k)) hK
  have HTh : Hid (∀ W, Kept [] W0 W → p.names.length ≤ 1000 → p.code.length ≤ 1000 → Calls Tryz.prog 7 #[.agg #[.slice av p.names.length cv, .slice bv p.code.length dv]] W fun e w' => ∃ v' u', e = .returned (.agg #[v', u']) ∧ IsP w' v' u' p ∧ Kept [] W w') := fun W k h1 h2 => theirs11 (hI.keep (k0.then k)) h1 h2
  have HEn : Hid (∀ (v' u' : Value) W, Kept [] W0 W → IsP W v' u' p → Calls Tryz.prog 8 #[.agg #[v', u']] W fun e w' => ∃ (a : Option Addr) (n c : Nat), e = .returned (.tuple #[.slice a n c, .int .i64 (encE p)]) ∧ Reads w' (.slice a n c) (encB p) ∧ Kept [] W w') := fun v' u' W k h => (encode20 h (hG.kept (k0.then k)) hK hO).mono fun e w' h => h.any
  have HEr : Hid (∀ W, Kept [] W0 W → Calls Tryz.prog 24 #[.agg #[.slice av p.names.length cv, .slice bv p.code.length dv]] W fun e w' => ∃ (a : Option Addr) (n c : Nat), e = .returned (.tuple #[.slice a n c, .int .i64 (encE p)]) ∧ Reads w' (.slice a n c) (encB p) ∧ Kept [] W w') := fun W k => (encode21 (hI.keep (k0.then k)) hK hO).mono fun e w' h => h.any
  have HDe : Hid (∀ W, Kept [] W0 W → Calls Tryz.prog 25 #[vb] W fun e w' => ∃ (a b : Option Addr) (c d : Nat), e = .returned (.tuple #[.agg #[.slice a (decQ l).names.length c, .slice b (decQ l).code.length d], .int .i64 (decE l)]) ∧ IsP w' (.slice a (decQ l).names.length c) (.slice b (decQ l).code.length d) (decQ l) ∧ Kept [] W w') := fun W k => (decode22 vb l (hG.kept (k0.then k)) (hr.kept (k0.then k) (by simp)) (by omega)).mono fun e w' h => h.any
  have HDr : Hid (∀ W, Kept [] W0 W → Calls Tryz.prog 26 #[vb] W fun e w' => ∃ (a b : Option Addr) (c d : Nat), e = .returned (.tuple #[.agg #[.slice a (decQ l).names.length c, .slice b (decQ l).code.length d], .int .i64 (decE l)]) ∧ IsP w' (.slice a (decQ l).names.length c) (.slice b (decQ l).code.length d) (decQ l) ∧ Kept [] W w') := fun W k => (decode23 vb l (hr.kept (k0.then k) (by simp)) (fun g hg => by have := hin g hg; have := (k0.then k).size; omega) (by omega)).mono fun e w' h => h.any
  have hq := decQ_small l
  generalize encE p = er at *
  generalize encB p = B at *
  generalize decQ l = Q at *
  generalize decE l = dr at *
  obtain ⟨nn, hnn⟩ : ∃ n, Q.names.length = n := ⟨_, rfl⟩
  obtain ⟨nc, hnc⟩ : ∃ n, Q.code.length = n := ⟨_, rfl⟩
  rw [hnn, hnc] at HDe HDr hq
  clear hnn hnc
  obtain ⟨y0, y1⟩ := cells2 hb0
  have HB0 := Hid.mk hb0
  have HK0 := Hid.mk k0
  clear k0 hb0 hz0 hI hK hC hG hO hr hin hll
  go_enter Tryz.func10, Tryz.ntmps10
  go_wp2_with fail
  refine (HAw.out W0 (Kept.refl [] W0)).mono ?_
  rintro e w1 ⟨rfl, k1⟩
  have HK1 := Hid.mk k1
  obtain ⟨y2, y3⟩ := cells2 (k1.keeps HB0.out (by simp))
  clear k1 y0 y1
  go_wp2_with fail
  refine (HFw.out w1 HK1.out).mono ?_
  rintro e w2 ⟨hf, k2⟩
  have HK2 := Hid.mk (HK1.out.then k2)
  obtain ⟨y0, y1⟩ := cells2 (k2.keeps (HK1.out.keeps HB0.out (by simp)) (by simp))
  clear k2 y2 y3
  rcases hf with ⟨rfl, q1, q2, q3⟩ | rfl
  · go_wp2_with fail
    refine (HTh.out w2 HK2.out (by omega) (by omega)).mono ?_
    rintro e w3 ⟨v', u', rfl, hI', k3⟩
    have HK3 := Hid.mk (HK2.out.then k3)
    have HI' := Hid.mk hI'
    clear k3 hI' y0 y1
    go_wp2_with fail
    refine (HEn.out v' u' w3 HK3.out HI'.out).mono ?_
    rintro e w4 ⟨a4, n4, c4, rfl, r4, k4⟩
    have HK4 := Hid.mk (HK3.out.then k4)
    have HR4 := Hid.mk r4
    obtain ⟨y0, y1⟩ := cells2 (HK4.out.keeps HB0.out (by simp))
    clear k4 r4 HI'
    go_wp2_with fail
    refine (HEr.out w4 HK4.out).mono ?_
    rintro e w5 ⟨a5, n5, c5, rfl, r5, k5⟩
    have HK5 := Hid.mk (HK4.out.then k5)
    have HR45 := Hid.mk (HR4.out.kept k5 (by simp))
    have HR5 := Hid.mk r5
    clear k5 r5 HR4 y0 y1
    go_wp2_with fail
    refine (HDe.out w5 HK5.out).mono ?_
    rintro e w6 ⟨a6, b6, c6, d6, rfl, i6, k6⟩
    obtain ⟨W7, e7, k7, hz7, hb7⟩ := box1 w6 (.cells #[.slice a6 nn c6, .slice b6 nc d6] 33)
    have HK7 := Hid.mk ((HK5.out.then k6).then k7)
    have HR7 := Hid.mk (And.intro (HR45.out.kept (k6.then k7) (by simp)) (HR5.out.kept (k6.then k7) (by simp)))
    have HI7 := Hid.mk (i6.keep k7)
    have HB7 := Hid.mk hb7
    clear k6 k7 i6 hz7 hb7 HR45 HR5
    go_wp2_with fail
    refine (HDr.out W7 HK7.out).mono ?_
    rintro e w8 ⟨a8, b8, c8, d8, rfl, i8, k8⟩
    obtain ⟨W9, e9, k9, hz9, hb9⟩ := box1 w8 (.cells #[.slice a8 nn c8, .slice b8 nc d8] 25)
    have HK9 := Hid.mk ((HK7.out.then k8).then k9)
    have HI6 : Hid (∀ W, Kept [] W9 W → IsP W (.slice a6 nn c6) (.slice b6 nc d6) Q) := fun W k => HI7.out.keep ((k8.then k9).then k)
    have HI8 : Hid (∀ W, Kept [] W9 W → IsP W (.slice a8 nn c8) (.slice b8 nc d8) Q) := fun W k => i8.keep (k9.then k)
    have HS : Hid (∀ W, Kept [] W9 W → (W.cell? ⟨w6.heap.size, 0, none⟩ = some (.slice a6 nn c6) ∧ W.cell? ⟨w6.heap.size, 1, none⟩ = some (.slice b6 nc d6)) ∧ (W.cell? ⟨w8.heap.size, 0, none⟩ = some (.slice a8 nn c8) ∧ W.cell? ⟨w8.heap.size, 1, none⟩ = some (.slice b8 nc d8)) ∧ (convert 35 9 (.slice a4 n4 c4)).run Tryz.prog W = .ok (.string ⟨B.toArray⟩) W ∧ (convert 35 9 (.slice a5 n5 c5)).run Tryz.prog W = .ok (.string ⟨B.toArray⟩) W) := fun W k => ⟨cells2 (((k8.then k9).then k).keeps HB7.out (by simp)), cells2 (k.keeps hb9 (by simp)), string_of (P := Tryz.prog) 35 5 Tryz.underlying35 9 Tryz.underlying5 Tryz.underlying9 _ _ W (HR7.out.1.kept ((k8.then k9).then k) (by simp)), string_of (P := Tryz.prog) 35 5 Tryz.underlying35 9 Tryz.underlying5 Tryz.underlying9 _ _ W (HR7.out.2.kept ((k8.then k9).then k) (by simp))⟩
    have HOu : Hid (∀ (v u : Value) W, IsP W v u Q → Calls Tryz.prog 23 #[.agg #[v, u]] W fun e w' => ∃ v' u', e = .returned (.agg #[v', u']) ∧ IsP w' v' u' Q ∧ Kept [] W w') := fun v u W h => by
      obtain ⟨a, c, b, d, f1, f2, -, -⟩ := (HI6.out W9 (Kept.refl [] W9)).form
      have g1 : Q.names.length = nn := by injection f1 with _ f; exact f.symm
      have g2 : Q.code.length = nc := by injection f2 with _ f; exact f.symm
      exact ours19 h (by omega) (by omega)
    have HSm : Hid (∀ (v u v' u' : Value) W, IsP W v u Q → IsP W v' u' Q → Calls Tryz.prog 22 #[.agg #[v, u], .agg #[v', u']] W fun e w' => e = .returned (.bool true) ∧ Kept [] W w') := fun v u v' u' W h h' => same16 h h'
    have K0 : Hid (Kept [] W9 W9.drew) := (Kept.refl [] W9).drew
    have S0 := HS.out _ K0.out
    clear k8 k9 hz9 hb9 i8 HB7 HI7 HR7
    go_wp2_with fail
    generalize w6.heap.size = g6 at *
    generalize w8.heap.size = g8 at *
    go_region_held3 (fun V => (V.cell? ⟨g6, 0, none⟩ = some (.slice a6 nn c6) ∧ V.cell? ⟨g6, 1, none⟩ = some (.slice b6 nc d6)) ∧ (V.cell? ⟨g8, 0, none⟩ = some (.slice a8 nn c8) ∧ V.cell? ⟨g8, 1, none⟩ = some (.slice b8 nc d8)) ∧ (convert 35 9 (.slice a4 n4 c4)).run Tryz.prog V = .ok (.string ⟨B.toArray⟩) V ∧ (convert 35 9 (.slice a5 n5 c5)).run Tryz.prog V = .ok (.string ⟨B.toArray⟩) V) (first | with_reducible exact S0 | with_reducible exact S1 | with_reducible exact S2) (first | (go_at_call 22; (with_reducible refine (HSm.out _ _ _ _ _ I1.out (HI8.out _ K1.out)).mono ?_); rintro e w22 ⟨rfl, k⟩; have K2 := Hid.mk (K1.out.then k); have S2 := HS.out _ K2.out; clear k) | (go_at_call 23; (with_reducible refine (HOu.out _ _ _ (HI6.out _ K0.out)).mono ?_); rintro e w21 ⟨v1, u1, rfl, i1, k⟩; have I1 := Hid.mk i1; have K1 := Hid.mk (K0.out.then k); have S1 := HS.out _ K1.out; clear i1 k))
    have HK22 := Hid.mk (HK9.out.then K2.out)
    clear S0 S1 S2 K0 K1 K2 I1 HS HI6 HI8
    go_wp2_with fail
    go_ret
    exact ⟨rfl, HK0.out.then HK22.out⟩
  · go_wp2_with fail
    refine (HAw.out w2 HK2.out).mono ?_
    rintro e w3 ⟨rfl, k3⟩
    go_wp2_with fail
    go_ret
    exact ⟨rfl, (HK0.out.then HK2.out).then k3⟩
end
end Go.Proofs.YtibapmjgpnldgaaGreatDoor
/-
  The document's Unhex.
-/
namespace Go.Proofs.YtibapmjgpnldgaaGreatDoor
open Go.RowKit
set_option maxRecDepth 100000
set_option linter.unusedVariables false
/-- The key of digits. -/
def unhexK (s : List UInt8) : Option (List UInt8) := (unhexS s).bind fun k => if isKey k = true then some k else none
/-- What Unhex answers. -/
def UnAt (s : List UInt8) (e : Ending) : Prop := (∃ k, unhexK s = some k ∧ e = .returned (.tuple #[.string ⟨k.toArray⟩, .bool true])) ∨ (unhexK s = none ∧ ∃ k : List UInt8, e = .returned (.tuple #[.string ⟨k.toArray⟩, .bool false]))
theorem add_digs {x y : Nat} (hx : x < 16) (hy : y < 16) : (16 * (x : Int) + (y : Int)) % 256 = ((UInt8.ofNat (16 * x + y)).toNat : Int) := by
  simp
section
variable {w : World}
set_option maxHeartbeats 4000000 in
theorem unhex66 (s : List UInt8) (hs : s.length ≤ 100000) : Calls Tryz.prog 61 #[.string ⟨s.toArray⟩] w fun e w' => UnAt s e ∧ Kept [] w w' := by
  have hz : (⟨s.toArray⟩ : ByteArray).size = s.length := by simp [ByteArray.size]
  obtain ⟨R, HR'⟩ : ∃ R, Hid (R = unhexK s) := ⟨_, rfl⟩
  have HA : Hid (∀ e, UnAt s e ↔ ((∃ k, R = some k ∧ e = .returned (.tuple #[.string ⟨k.toArray⟩, .bool true])) ∨ (R = none ∧ ∃ k : List UInt8, e = .returned (.tuple #[.string ⟨k.toArray⟩, .bool false])))) := fun e => by unfold UnAt; rw [← HR'.out]
  generalize UnAt s = NA at *
  unfold unhexK at HR'
  have HD : Hid (∀ (c : UInt8) W, Calls Tryz.prog 77 #[.int .u8 (c.toNat : Int)] W fun e w' => e = .returned (.int .i64 (digI c)) ∧ W = w') := fun c W => digit83 c
  go_enter Tryz.func61, Tryz.ntmps61
  go_wp2_with fail
  go_loopw [4, 5] (fun v i wr => ∃ (m : Nat) (X : List UInt8), Hid (Out 5 1 w wr v (rowB X)) ∧ i = .int .i64 (m : Int) ∧ m ≤ s.length ∧ Hid (m = 2 * X.length) ∧ Hid (unhexS s = (unhexS (s.drop m)).map fun r => X ++ r)) (fun _ i _ => s.length - (intOf i).toNat)
  case atStart => exact ⟨0, [], Hid.mk (Out.nil (Kept.refl [] w)), rfl, by omega, Hid.mk rfl, Hid.mk (by simp)⟩
  case round =>
    obtain ⟨m, X, HO, rfl, hj, HXl, HU⟩ := hrel
    by_cases hlt : m + 1 < s.length
    · have hjI : (m : Int) + 1 < (s.length : Int) := by omega
      have hjJ : (m : Int) < (s.length : Int) := by omega
      have hj0 : (0 : Int) ≤ (m : Int) := by omega
      have hj1 : (0 : Int) ≤ (m : Int) + 1 := by omega
      have hjN : m < s.length := by omega
      have hw1 : IntKind.i64.wrap ((m : Int) + 1) = (m : Int) + 1 := by rw [IntKind.wrap_i64]; omega
      have htn : ((m : Int) + 1).toNat = m + 1 := by omega
      obtain ⟨a, b, ha, hb, hu⟩ := unhex_drop (q := s) (j := m) (by omega)
      have hA : ∀ h, (⟨s.toArray⟩ : ByteArray)[m]'h = a := fun h => byte_at ha h
      have hB : ∀ h, (⟨s.toArray⟩ : ByteArray)[m + 1]'h = b := fun h => byte_at hb h
      have HCa := Hid.mk (HD.out a)
      have HCb : Hid (∀ W, True → _) := fun W (_ : True) => HD.out b W
      have HU2 := Hid.mk hu
      clear hu ha hb HD
      generalize hda : digI a = da at *
      generalize hdb : digI b = db at *
      have HDA := Hid.mk hda
      have HDB := Hid.mk hdb
      clear hda hdb
      go_wp2_with fail
      go_region_held3 (fun V => True) (trivial) (first | (go_at_call 77; (with_reducible refine (HCb.out _ T1.out).mono ?_); rintro e w2 ⟨rfl, rfl⟩) | (go_at_call 77; (with_reducible refine (HCa.out _).mono ?_); rintro e w2 ⟨rfl, rfl⟩; have T1 : Hid True := trivial))
      all_goals
        have HO1 := Hid.mk (HO.out.keep (Kept.refl [] wr).drew)
        cases hx : digC a with
        | none =>
          have HN : Hid (R = none) := by show _ = _; rw [HR'.out, HU.out, HU2.out, hx]; rfl
          obtain rfl : da = -1 := by rw [← HDA.out]; exact digI_none hx
          clear HU HU2 hx HR' HDA HDB
          go_wp2_with fail
          go_ret2
          exact ⟨(HA.out _).2 (.inr ⟨HN.out, [], rfl⟩), HO1.out.kept⟩
        | some x =>
          obtain ⟨-, lx⟩ := digC_own hx
          obtain rfl : da = (x : Int) := by rw [← HDA.out]; exact digI_some hx
          have lx' : ¬ ((x : Int) < 0) := by omega
          cases hy : digC b with
          | none =>
            have HN : Hid (R = none) := by show _ = _; rw [HR'.out, HU.out, HU2.out, hx, hy]; rfl
            obtain rfl : db = -1 := by rw [← HDB.out]; exact digI_none hy
            clear HU HU2 hx hy HR' HDA HDB
            go_wp2_with fail
            go_ret2
            exact ⟨(HA.out _).2 (.inr ⟨HN.out, [], rfl⟩), HO1.out.kept⟩
          | some y =>
            obtain ⟨-, ly⟩ := digC_own hy
            obtain rfl : db = (y : Int) := by rw [← HDB.out]; exact digI_some hy
            have ly' : ¬ ((y : Int) < 0) := by omega
            obtain ⟨q, HQ⟩ : ∃ q, Hid (UInt8.ofNat (16 * x + y) = q) := ⟨_, rfl⟩
            have hB8 : B8 q = .int .u8 (16 * (x : Int) + (y : Int)) := by
              unfold B8
              rw [← HQ.out, ← add_digs lx ly]
              congr 1
              omega
            have hw3 : IntKind.i64.wrap (16 * (x : Int)) = 16 * (x : Int) := by rw [IntKind.wrap_i64]; omega
            have hw4 : IntKind.i64.wrap (16 * (x : Int) + (y : Int)) = 16 * (x : Int) + (y : Int) := by rw [IntKind.wrap_i64]; omega
            have HU3 : Hid (unhexS s = (unhexS (s.drop (m + 2))).map fun r => (X ++ [q]) ++ r) := by
              show _ = _
              rw [HU.out, HU2.out, hx, hy, ← HQ.out]
              cases unhexS (s.drop (m + 2)) <;> simp
            obtain ⟨ad, cc, w3, hrun, hO3⟩ := HO1.out.more rt45 [B8 q] rfl (by simp [B8, Value.oneCell']) (by rw [rowB_length]; have := HXl.out; omega) 5 (0, 0) 35
            have HO3 := Hid.mk hO3
            have e3 : rowB (X ++ [q]) = rowB X ++ [[B8 q]] := by simp [rowB]
            rw [← e3] at HO3
            have HL3 : Hid (m + 2 = 2 * (X ++ [q]).length) := by show _ = _; rw [List.length_append, HXl.out]; simp; omega
            rw [hB8] at hrun
            generalize (rowB X).length + 1 = n3 at *
            clear hx hy HU HU2 HO HO1 hO3 e3 HDA HDB hB8
            go_wp2_with (at_builtin; refine wpList_append_run 35 35 (.tmp 30) (.tmp 36) rfl (by rfl) _ _ rfl rfl _ _ hrun ?_)
            go_roundw
            case rel => exact ⟨m + 2, X ++ [q], HO3, by go_num, by omega, HL3, HU3⟩
            case measure => simp [intOf]; omega
    · have hjI : ¬ (m : Int) + 1 < (s.length : Int) := by omega
      have HI := Hid.mk (fun W => key32 (w := W) X (by have := HXl.out; omega))
      have hcv : ∀ z : KW wr, (convert 35 9 u4).run Tryz.prog z.w = .ok (.string ⟨X.toArray⟩) z.w := fun z => string_of (P := Tryz.prog) 35 5 Tryz.underlying35 9 Tryz.underlying5 Tryz.underlying9 u4 X z.w (HO.out.keep z.k).bytes.reads
      by_cases hev : s.length % 2 = 0
      · have t2 : ((s.length : Int) % 2 == 0) = true := by simp; omega
        have e0 : s.drop m = [] := List.drop_eq_nil_of_le (by have := HXl.out; omega)
        have HR2 : Hid (R = if isKey X = true then some X else none) := by
          show _ = _
          rw [HR'.out, HU.out, e0]
          simp [unhexS]
        clear HR' HU e0 HD hev
        cases hk : isKey X with
        | true =>
          rw [hk] at HI
          rw [hk, if_pos rfl] at HR2
          clear hk
          go_wp2_with fail
          refine wp_region_kw (C := fun W => ∃ z : KW wr, W = z.w) (by kernel_rfl) (by kernel_rfl) ⟨⟨wr.drew, (Kept.refl [] wr).drew⟩, rfl⟩ ?_
          repeat (go_big_quiet_step (first | (go_at_call 64; exact calls_kw ((HI.out _).mono fun e w' h => ⟨h.1, by rw [← h.2]; exact Kept.refl [] _⟩)) | fail))
          refine wpQuiet_nil ?_
          rintro _ ⟨z, rfl⟩
          have HZ := Hid.mk (HO.out.keep z.k).kept
          go_wp2_with fail
          go_ret2
          exact ⟨(HA.out _).2 (.inl ⟨X, HR2.out, rfl⟩), HZ.out⟩
        | false =>
          rw [hk] at HI
          rw [hk, if_neg (by simp)] at HR2
          clear hk
          go_wp2_with fail
          refine wp_region_kw (C := fun W => ∃ z : KW wr, W = z.w) (by kernel_rfl) (by kernel_rfl) ⟨⟨wr.drew, (Kept.refl [] wr).drew⟩, rfl⟩ ?_
          repeat (go_big_quiet_step (first | (go_at_call 64; exact calls_kw ((HI.out _).mono fun e w' h => ⟨h.1, by rw [← h.2]; exact Kept.refl [] _⟩)) | fail))
          refine wpQuiet_nil ?_
          rintro _ ⟨z, rfl⟩
          have HZ := Hid.mk (HO.out.keep z.k).kept
          go_wp2_with fail
          go_ret2
          exact ⟨(HA.out _).2 (.inr ⟨HR2.out, X, rfl⟩), HZ.out⟩
      · have t2 : ((s.length : Int) % 2 == 0) = false := by simp; omega
        have HN : Hid (R = none) := by
          show _ = _
          have hl1 : (s.drop m).length = 1 := by rw [List.length_drop]; have := HXl.out; omega
          obtain ⟨x, hx⟩ := List.length_eq_one_iff.1 hl1
          rw [HR'.out, HU.out, hx]
          simp [unhexS]
        clear HR' HU HD hev
        go_wp2_with fail
        refine wp_region_kw (C := fun W => ∃ z : KW wr, W = z.w) (by kernel_rfl) (by kernel_rfl) ⟨⟨wr.drew, (Kept.refl [] wr).drew⟩, rfl⟩ ?_
        repeat (go_big_quiet_step (first | (go_at_call 64; exact calls_kw ((HI.out _).mono fun e w' h => ⟨h.1, by rw [← h.2]; exact Kept.refl [] _⟩)) | fail))
        refine wpQuiet_nil ?_
        rintro _ ⟨z, rfl⟩
        have HZ := Hid.mk (HO.out.keep z.k).kept
        go_wp2_with fail
        go_ret2
        exact ⟨(HA.out _).2 (.inr ⟨HN.out, X, rfl⟩), HZ.out⟩
end
end Go.Proofs.YtibapmjgpnldgaaGreatDoor
