/-
  CodeParses: the walk.
-/
import Derived.Test.YtibapmjgpnldgaaDoorAw
import Derived.Test.YtibapmjgpnldgaaDoorOu
import Derived.Test.YtibapmjgpnldgaaDoorPx
import Derived.Test.YtibapmjgpnldgaaDoorOp
import Derived.Deep.RegionHeld3
namespace Go.Proofs.YtibapmjgpnldgaaDoor
open Go.RowKit
set_option maxRecDepth 100000
set_option linter.unusedVariables false
theorem isP_nil (w : World) : IsP w (.slice none 0 0) (.slice none 0 0) ⟨[], []⟩ := ⟨(OwnsR.nil 9 1 w).reads (wideN []), (OwnsR.nil 64 2 w).reads (wideI [])⟩
/-- What Parse answers, of any text. -/
def parQ (s : List UInt8) : Pg := if 20000 < s.length then ⟨[], []⟩ else match parseP s with
  | .inl _ => ⟨[], []⟩
  | .inr p => p
def parN (s : List UInt8) : Nat := if 20000 < s.length then 0 else match parseP s with
  | .inl n => n
  | .inr _ => 0
def parE (s : List UInt8) : Int := if 20000 < s.length then 4 else match parseP s with
  | .inl _ => 2
  | .inr _ => 0
theorem ParseR.any {s : List UInt8} {w' : World} {e : Ending} (h : ParseR s w' e) : ∃ (a b : Option Addr) (c d : Nat), e = .returned (.tuple #[.agg #[.slice a (parQ s).names.length c, .slice b (parQ s).code.length d], .int .i64 (parN s : Int), .int .i64 (parE s)]) ∧ IsP w' (.slice a (parQ s).names.length c) (.slice b (parQ s).code.length d) (parQ s) := by
  unfold parQ parN parE
  rcases h with ⟨h, he⟩ | ⟨h, n, hn, he⟩ | ⟨h, p, v, u, hp, hi, he⟩
  · rw [if_pos h, if_pos h, if_pos h]
    exact ⟨none, none, 0, 0, he, isP_nil _⟩
  · rw [if_neg (by omega), if_neg (by omega), if_neg (by omega), hn]
    exact ⟨none, none, 0, 0, he, isP_nil _⟩
  · rw [if_neg (by omega), if_neg (by omega), if_neg (by omega), hp]
    obtain ⟨a, c, b, d, rfl, rfl, -, -⟩ := hi.form
    exact ⟨a, b, c, d, he, hi⟩
theorem parQ_small (s : List UInt8) : (parQ s).names.length ≤ 8 ∧ (parQ s).code.length ≤ 200 := by
  unfold parQ
  split
  · exact ⟨by decide, by decide⟩
  · cases h : parseP s with
    | inl n => exact ⟨Nat.zero_le _, Nat.zero_le _⟩
    | inr p => exact ⟨(formed_parts (print_parse h).1).1, (formed_parts (print_parse h).1).2.1⟩
section
variable {w : World}
set_option maxHeartbeats 8000000 in
theorem parses_walk (hG : Glob w) (s : List UInt8) (hs : s.length ≤ 9223372036854775807) : Calls Tryd.prog 4 #[.string ⟨s.toArray⟩] w fun e w' => e = .returned (.bool true) ∧ Kept [] w w' := by
  have HAw := Hid.mk (awake8 hG)
  have HPa : Hid (∀ W, Kept [] w W → Calls Tryd.prog 17 #[.string ⟨s.toArray⟩] W fun e w' => (∃ (a b : Option Addr) (c d : Nat), e = .returned (.tuple #[.agg #[.slice a (parQ s).names.length c, .slice b (parQ s).code.length d], .int .i64 (parN s : Int), .int .i64 (parE s)]) ∧ IsP w' (.slice a (parQ s).names.length c) (.slice b (parQ s).code.length d) (parQ s)) ∧ Kept [] W w') := fun W k => (parse17 (hG.kept k) s hs).mono fun e w' h => ⟨h.1.any, h.2⟩
  have HPd : Hid (∀ W, Calls Tryd.prog 18 #[.string ⟨s.toArray⟩] W fun e w' => (∃ (a b : Option Addr) (c d : Nat), e = .returned (.tuple #[.agg #[.slice a (parQ s).names.length c, .slice b (parQ s).code.length d], .int .i64 (parN s : Int), .int .i64 (parE s)]) ∧ IsP w' (.slice a (parQ s).names.length c) (.slice b (parQ s).code.length d) (parQ s)) ∧ Kept [] W w') := fun W => (parse18 s hs).mono fun e w' h => ⟨h.1.any, h.2⟩
  have hq := parQ_small s
  generalize parQ s = Q at *
  generalize parN s = pn at *
  generalize parE s = pe at *
  have HOu : Hid (∀ (v u : Value) W, IsP W v u Q → Calls Tryd.prog 19 #[.agg #[v, u]] W fun e w' => ∃ v' u', e = .returned (.agg #[v', u']) ∧ IsP w' v' u' Q ∧ Kept [] W w') := fun v u W h => ours19 h (by omega) (by omega)
  have HSm : Hid (∀ (v u v' u' : Value) W, IsP W v u Q → IsP W v' u' Q → Calls Tryd.prog 16 #[.agg #[v, u], .agg #[v', u']] W fun e w' => e = .returned (.bool true) ∧ Kept [] W w') := fun v u v' u' W h h' => same16 h h'
  obtain ⟨nn, hnn⟩ : ∃ n, Q.names.length = n := ⟨_, rfl⟩
  obtain ⟨nc, hnc⟩ : ∃ n, Q.code.length = n := ⟨_, rfl⟩
  rw [hnn, hnc] at HPa HPd
  clear hnn hnc hq hG
  go_enter Tryd.func4, Tryd.ntmps4
  go_wp2_with fail
  refine HAw.out.mono ?_
  rintro e w1 ⟨rfl, k1⟩
  have HK1 := Hid.mk k1
  clear k1 HAw
  go_wp2_with fail
  refine (HPa.out w1 HK1.out).mono ?_
  rintro e w6 ⟨⟨a6, b6, c6, d6, rfl, i6⟩, k6⟩
  obtain ⟨W7, e7, k7, hz7, hb7⟩ := box1 w6 (.cells #[.slice a6 nn c6, .slice b6 nc d6] 33)
  have HK7 := Hid.mk ((HK1.out.then k6).then k7)
  have HI7 := Hid.mk (i6.keep k7)
  have HB7 := Hid.mk hb7
  clear k6 k7 i6 hz7 hb7
  go_wp2_with fail
  refine (HPd.out W7).mono ?_
  rintro e w8 ⟨⟨a8, b8, c8, d8, rfl, i8⟩, k8⟩
  obtain ⟨W9, e9, k9, hz9, hb9⟩ := box1 w8 (.cells #[.slice a8 nn c8, .slice b8 nc d8] 25)
  have HK9 := Hid.mk ((HK7.out.then k8).then k9)
  have HI6 : Hid (∀ W, Kept [] W9 W → IsP W (.slice a6 nn c6) (.slice b6 nc d6) Q) := fun W k => HI7.out.keep ((k8.then k9).then k)
  have HI8 : Hid (∀ W, Kept [] W9 W → IsP W (.slice a8 nn c8) (.slice b8 nc d8) Q) := fun W k => i8.keep (k9.then k)
  have HS : Hid (∀ W, Kept [] W9 W → (W.cell? ⟨w6.heap.size, 0, none⟩ = some (.slice a6 nn c6) ∧ W.cell? ⟨w6.heap.size, 1, none⟩ = some (.slice b6 nc d6)) ∧ W.cell? ⟨w8.heap.size, 0, none⟩ = some (.slice a8 nn c8) ∧ W.cell? ⟨w8.heap.size, 1, none⟩ = some (.slice b8 nc d8)) := fun W k => ⟨cells2 (((k8.then k9).then k).keeps HB7.out (by simp)), cells2 (k.keeps hb9 (by simp))⟩
  have K0 : Hid (Kept [] W9 W9.drew) := (Kept.refl [] W9).drew
  have S0 := HS.out _ K0.out
  clear k8 k9 hz9 hb9 i8 HB7 HI7
  go_wp2_with fail
  generalize w6.heap.size = g6 at *
  generalize w8.heap.size = g8 at *
  go_region_held3 (fun V => (V.cell? ⟨g6, 0, none⟩ = some (.slice a6 nn c6) ∧ V.cell? ⟨g6, 1, none⟩ = some (.slice b6 nc d6)) ∧ V.cell? ⟨g8, 0, none⟩ = some (.slice a8 nn c8) ∧ V.cell? ⟨g8, 1, none⟩ = some (.slice b8 nc d8)) (first | with_reducible exact S0 | with_reducible exact S1 | with_reducible exact S2) (first | (go_at_call 16; (with_reducible refine (HSm.out _ _ _ _ _ I1.out (HI8.out _ K1.out)).mono ?_); rintro e w22 ⟨rfl, k⟩; have K2 := Hid.mk (K1.out.then k); have S2 := HS.out _ K2.out; clear k) | (go_at_call 19; (with_reducible refine (HOu.out _ _ _ (HI6.out _ K0.out)).mono ?_); rintro e w21 ⟨v1, u1, rfl, i1, k⟩; have I1 := Hid.mk i1; have K1 := Hid.mk (K0.out.then k); have S1 := HS.out _ K1.out; clear i1 k))
  have HK22 := Hid.mk (HK9.out.then K2.out)
  clear S0 S1 S2 K0 K1 K2 I1 HS HI6 HI8
  go_wp2_with fail
  go_ret
  exact ⟨rfl, HK22.out⟩
end
end Go.Proofs.YtibapmjgpnldgaaDoor
