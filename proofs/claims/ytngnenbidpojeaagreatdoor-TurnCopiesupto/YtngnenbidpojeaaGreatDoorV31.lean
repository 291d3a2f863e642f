import Derived.Test.YtngnenbidpojeaaGreatDoorV22
import Derived.Test.YtngnenbidpojeaaGreatDoorV23
import Derived.Test.YtngnenbidpojeaaGreatDoorV25
import Derived.Test.YtngnenbidpojeaaGreatDoorV30
/-
  The program's machine: reckon and act in the words of the pure machine; what an instruction of a formed program names is there.
-/
namespace Go.Proofs.YtngnenbidpojeaaGreatDoor
open Go.RowKit
set_option maxRecDepth 100000
set_option linter.unusedVariables false
/-- What an instruction of a formed program names is there. -/
structure Fit (p : Pg) (o : Nat) (a : Int) : Prop where
  op : o < 24
  reg : o = 2 ∨ o = 3 → 0 ≤ a ∧ a ≤ 7
  arg : o = 4 → 0 ≤ a ∧ a ≤ 7
  plc : o = 15 ∨ o = 16 → 0 ≤ a ∧ a ≤ (p.code.length : Int)
  nam : o = 17 ∨ o = 19 ∨ o = 20 → 0 ≤ a ∧ a < (p.names.length : Int)
theorem fit_of {p : Pg} {x : In} (h : okI p.names.length p.code.length x = true) : ∃ o : Nat, x.op = (o : Int) ∧ Fit p o x.arg := by
  unfold okI at h
  obtain ⟨xo, a⟩ := x
  dsimp only at h ⊢
  have h0 : 0 ≤ xo ∧ xo.toNat < 24 := by
    cases hw : words[xo.toNat]? with
    | none => rw [hw] at h; cases h
    | some z =>
      rw [hw] at h
      simp at h
      have := (List.getElem?_eq_some_iff.1 hw).1
      rw [words_length] at this
      exact ⟨h.1, this⟩
  refine ⟨xo.toNat, by omega, h0.2, fun e => ?_, fun e => ?_, fun e => ?_, fun e => ?_⟩
  · rcases e with e | e <;> (rw [e] at h; simp [words, mostI] at h; omega)
  · rw [e] at h; simp [words, mostI] at h; omega
  · rcases e with e | e <;> (rw [e] at h; simp [words, mostI] at h; omega)
  · rcases e with e | e | e <;> (rw [e] at h; simp [words, mostI] at h; omega)
/-- What a step's outcome is in memory. -/
def OuC (B : Bs) (p : Nat) (k : Nat) : Ou → Int → World → Prop
  | .go m, c, w => c = 0 ∧ MSt B w p m k
  | .halt m, c, w => c = 0 ∧ MSt B w p { m with at_ := B.pg.code.length } k
  | .err d, c, w => c = d ∧ ∃ m, MSt B w p m k
/-- What holds of a base all the way. -/
structure Bs.Good (B : Bs) : Prop where
  ok : B.Ok
  names : ∀ s ∈ B.pg.names, isKey s = true
  few : B.pg.code.length ≤ 200
  fr : B.l.fr.length ≤ 40
  now : 0 ≤ B.now ∧ B.now ≤ 9223372036854775807
/-- How much there may be. -/
def Lite (m : Mc) : Prop := m.ev.length ≤ 900 ∧ m.tm.length ≤ 900 ∧ m.sent.length ≤ 4
section
variable {B : Bs} {w w' : World} {p : Nat} {m : Mc} {k : Nat} {stk : List Int} {ev sn tm : Value}
theorem name_of (hG : B.Good) {n : Nat} (hn : n < B.pg.names.length) : ∃ s, B.pg.names[n]? = some s ∧ B.pg.names.getD n [] = s ∧ s ≠ [] ∧ s.length ≤ 281474976710656 := by
  have h1 : B.pg.names[n]? = some B.pg.names[n] := List.getElem?_eq_getElem hn
  have h2 := (isKey_iff _).1 (hG.names _ (List.getElem_mem hn))
  exact ⟨_, h1, by rw [List.getD_eq_getElem?_getD, h1]; rfl, fun e => by rw [e] at h2; simp at h2, by omega⟩
theorem reckon31_any {i : Nat} {arg : Int} (hG : B.Good) (h : MSt B w p m k) (hF : Fit B.pg i arg) (x y : Int) (hg : 0 < (effI i).2) (hl : m.st.length + (effI i).2 ≤ 16) : Calls Tryz.prog 126 #[.pointer (some ⟨p, 0, none⟩), .agg #[.int .i64 (i : Int), .int .i64 arg], .int .i64 x, .int .i64 y] w fun e w' => e = .returned (.tuple #[]) ∧ ∃ m', actI B.pg B.l B.now m i (effI i).2 arg x y = .go m' ∧ MSt B w' p m' k := by
  have hlt := hF.op
  match i, hlt with
  | 0, _ => exact absurd hg (by decide)
  | 1, _ => exact (reckon31_1 h arg x y hl).mono fun e w' h => ⟨h.1, _, rfl, h.2⟩
  | 2, _ => exact (reckon31_2 h arg x y (hF.reg (.inl rfl)) hl).mono fun e w' h => ⟨h.1, _, rfl, h.2⟩
  | 3, _ => exact absurd hg (by decide)
  | 4, _ => exact (reckon31_4 h arg x y hG.ok (hF.arg rfl) hl).mono fun e w' h => ⟨h.1, _, rfl, h.2⟩
  | 5, _ => exact (reckon31_5 h arg x y hl).mono fun e w' h => ⟨h.1, _, rfl, h.2⟩
  | 6, _ => exact (reckon31_6 h arg x y hl).mono fun e w' h => ⟨h.1, _, rfl, h.2⟩
  | 7, _ => exact (reckon31_7 h arg x y hl).mono fun e w' h => ⟨h.1, _, rfl, h.2⟩
  | 8, _ => exact (reckon31_8 h arg x y hl).mono fun e w' h => ⟨h.1, _, rfl, h.2⟩
  | 9, _ => exact (reckon31_9 h arg x y hl).mono fun e w' h => ⟨h.1, _, rfl, h.2⟩
  | 10, _ => exact (reckon31_10 h arg x y hl).mono fun e w' h => ⟨h.1, _, rfl, h.2⟩
  | 11, _ => exact (reckon31_11 h arg x y hl).mono fun e w' h => ⟨h.1, _, rfl, h.2⟩
  | 12, _ => exact (reckon31_12 h arg x y hl).mono fun e w' h => ⟨h.1, _, rfl, h.2⟩
  | 13, _ => exact absurd hg (by decide)
  | 14, _ => exact (reckon31_14 h arg x y hl).mono fun e w' h => ⟨h.1, _, rfl, h.2⟩
  | 15, _ => exact absurd hg (by decide)
  | 16, _ => exact absurd hg (by decide)
  | 17, _ => exact absurd hg (by decide)
  | 18, _ => exact absurd hg (by decide)
  | 19, _ => exact absurd hg (by decide)
  | 20, _ => exact absurd hg (by decide)
  | 21, _ => exact absurd hg (by decide)
  | 22, _ => exact (reckon31_22 h arg x y hl).mono fun e w' h => ⟨h.1, _, rfl, h.2⟩
  | 23, _ => exact (reckon31_23 h arg x y hl).mono fun e w' h => ⟨h.1, _, rfl, h.2⟩
  | n + 24, h => exact absurd h (by omega)
theorem send_act {op : Nat} {to : List UInt8} {arg x y c : Int} (hto : (if op = 17 then B.pg.names.getD arg.toNat [] else B.l.fr) = to) (h17 : op = 17 ∨ op = 18) (hne : to ≠ []) (h : SendP B p m k to x y c w) : OuC B p k (actI B.pg B.l B.now m op 0 arg x y) c w := by
  unfold actI
  rw [if_neg (by omega), if_neg (by omega), if_neg (by omega), if_neg (by omega), if_neg (by omega), if_neg (by omega), if_neg (by omega), if_pos h17, hto, if_neg hne]
  rcases h with ⟨h1, rfl, h3⟩ | ⟨h1, rfl, h3⟩
  · rw [if_pos (by omega)]; exact ⟨rfl, m, h3⟩
  · rw [if_neg (by omega)]; exact ⟨rfl, h3⟩
theorem act32_any {i : Nat} {arg : Int} (hG : B.Good) (h : MSt B w p m k) (hF : Fit B.pg i arg) (x y : Int) (hg : (effI i).2 = 0) (hL : Lite m) : Calls Tryz.prog 127 #[.pointer (some ⟨p, 0, none⟩), .agg #[.int .i64 (i : Int), .int .i64 arg], .int .i64 x, .int .i64 y] w fun e w' => ∃ c, e = .returned (.int .i64 c) ∧ OuC B p k (actI B.pg B.l B.now m i (effI i).2 arg x y) c w' := by
  have hlt := hF.op
  obtain ⟨l1, l2, l3⟩ := hL
  match i, hlt with
  | 0, _ => exact (act32_0 hG.ok h arg x y).mono fun e w' h => ⟨0, h.1, rfl, h.2⟩
  | 1, _ => exact absurd hg (by decide)
  | 2, _ => exact absurd hg (by decide)
  | 3, _ =>
    obtain ⟨a0, a1⟩ := hF.reg (.inr rfl)
    obtain ⟨n, rfl⟩ : ∃ n : Nat, arg = (n : Int) := ⟨arg.toNat, by omega⟩
    exact (act32_3 h n (by omega) x y l1).mono fun e w' h => ⟨0, h.1, rfl, h.2⟩
  | 4, _ => exact absurd hg (by decide)
  | 5, _ => exact absurd hg (by decide)
  | 6, _ => exact absurd hg (by decide)
  | 7, _ => exact absurd hg (by decide)
  | 8, _ => exact absurd hg (by decide)
  | 9, _ => exact absurd hg (by decide)
  | 10, _ => exact absurd hg (by decide)
  | 11, _ => exact absurd hg (by decide)
  | 12, _ => exact absurd hg (by decide)
  | 13, _ => exact (act32_13 h arg x y).mono fun e w' h => ⟨0, h.1, rfl, h.2⟩
  | 14, _ => exact absurd hg (by decide)
  | 15, _ =>
    obtain ⟨a0, a1⟩ := hF.plc (.inl rfl)
    obtain ⟨n, rfl⟩ : ∃ n : Nat, arg = (n : Int) := ⟨arg.toNat, by omega⟩
    exact (act32_15 h n x y).mono fun e w' h => ⟨0, h.1, rfl, h.2⟩
  | 16, _ =>
    obtain ⟨a0, a1⟩ := hF.plc (.inr rfl)
    obtain ⟨n, rfl⟩ : ∃ n : Nat, arg = (n : Int) := ⟨arg.toNat, by omega⟩
    exact (act32_16 h n x y).mono fun e w' h => ⟨0, h.1, rfl, h.2⟩
  | 17, _ =>
    obtain ⟨a0, a1⟩ := hF.nam (.inl rfl)
    obtain ⟨n, rfl⟩ : ∃ n : Nat, arg = (n : Int) := ⟨arg.toNat, by omega⟩
    obtain ⟨s, h1, h2, h3, h4⟩ := name_of hG (n := n) (by omega)
    exact (act32_17 hG.ok h n s h1 h4 x y l3).mono fun e w' h => by
      obtain ⟨c, hc, hs⟩ := h
      exact ⟨c, hc, send_act (by rw [if_pos rfl]; exact h2) (.inl rfl) h3 hs⟩
  | 18, _ =>
    exact (act32_18 h arg x y (by have := hG.fr; omega) l3).mono fun e w' h => by
      obtain ⟨c, hc, hs⟩ := h
      rcases hs with ⟨h1, rfl, h3⟩ | ⟨h1, h3⟩
      · refine ⟨0, hc, ?_⟩
        show OuC B p k (actI B.pg B.l B.now m 18 0 arg x y) 0 w'
        unfold actI
        rw [if_neg (by omega), if_neg (by omega), if_neg (by omega), if_neg (by omega), if_neg (by omega), if_neg (by omega), if_neg (by omega), if_pos (by omega), if_pos (by rw [if_neg (by omega)]; exact h1)]
        exact ⟨rfl, h3⟩
      · exact ⟨c, hc, send_act (by rw [if_neg (by omega)]) (.inr rfl) h1 h3⟩
  | 19, _ =>
    obtain ⟨a0, a1⟩ := hF.nam (.inr (.inl rfl))
    obtain ⟨n, rfl⟩ : ∃ n : Nat, arg = (n : Int) := ⟨arg.toNat, by omega⟩
    obtain ⟨s, h1, h2, h3, h4⟩ := name_of hG (n := n) (by omega)
    exact (act32_19 hG.ok h n s h1 h4 x y l2 hG.now).mono fun e w' h => by
      obtain ⟨c, hc, hs⟩ := h
      refine ⟨c, hc, ?_⟩
      show OuC B p k (actI B.pg B.l B.now m 19 0 (n : Int) x y) c w'
      unfold actI
      rw [if_neg (by omega), if_neg (by omega), if_neg (by omega), if_neg (by omega), if_neg (by omega), if_neg (by omega), if_neg (by omega), if_neg (by omega), if_pos rfl, Int.toNat_natCast, h2]
      unfold TimeP BadT at hs
      rcases hs with ⟨q1, rfl, q3⟩ | ⟨q1, rfl, q3⟩
      · rw [if_pos q1]; exact ⟨rfl, m, q3⟩
      · rw [if_neg q1]; exact ⟨rfl, q3⟩
  | 20, _ =>
    obtain ⟨a0, a1⟩ := hF.nam (.inr (.inr rfl))
    obtain ⟨n, rfl⟩ : ∃ n : Nat, arg = (n : Int) := ⟨arg.toNat, by omega⟩
    obtain ⟨s, h1, h2, h3, h4⟩ := name_of hG (n := n) (by omega)
    exact (act32_20 hG.ok h n s h1 h4 x y l2).mono fun e w' h => by
      refine ⟨0, h.1, ?_⟩
      show OuC B p k (actI B.pg B.l B.now m 20 0 (n : Int) x y) 0 w'
      unfold actI
      rw [if_neg (by omega), if_neg (by omega), if_neg (by omega), if_neg (by omega), if_neg (by omega), if_neg (by omega), if_neg (by omega), if_neg (by omega), if_neg (by omega), if_pos rfl, Int.toNat_natCast, h2]
      exact ⟨rfl, h.2⟩
  | 21, _ => exact (act32_21 h arg x y).mono fun e w' h => ⟨12, h.1, rfl, m, h.2⟩
  | 22, _ => exact absurd hg (by decide)
  | 23, _ => exact absurd hg (by decide)
  | n + 24, h => exact absurd h (by omega)
end
end Go.Proofs.YtngnenbidpojeaaGreatDoor
/-
  How many an operation takes and pushes: the program's two functions and the document's one.
-/
namespace Go.Proofs.YtngnenbidpojeaaGreatDoor
open Go.RowKit
set_option maxRecDepth 100000
section
variable {w : World}
theorem takes28_0 : Calls Tryz.prog 123 #[.int .i64 0] w fun e w' => e = .returned (.int .i64 ((effI 0).1 : Int)) ∧ w = w' := by
  go_enter Tryz.func123, Tryz.ntmps123
  go_wp2_with fail
  go_ret
  exact ⟨rfl, rfl⟩
theorem takes28_1 : Calls Tryz.prog 123 #[.int .i64 1] w fun e w' => e = .returned (.int .i64 ((effI 1).1 : Int)) ∧ w = w' := by
  go_enter Tryz.func123, Tryz.ntmps123
  go_wp2_with fail
  go_ret
  exact ⟨rfl, rfl⟩
theorem takes28_2 : Calls Tryz.prog 123 #[.int .i64 2] w fun e w' => e = .returned (.int .i64 ((effI 2).1 : Int)) ∧ w = w' := by
  go_enter Tryz.func123, Tryz.ntmps123
  go_wp2_with fail
  go_ret
  exact ⟨rfl, rfl⟩
theorem takes28_3 : Calls Tryz.prog 123 #[.int .i64 3] w fun e w' => e = .returned (.int .i64 ((effI 3).1 : Int)) ∧ w = w' := by
  go_enter Tryz.func123, Tryz.ntmps123
  go_wp2_with fail
  go_ret
  exact ⟨rfl, rfl⟩
theorem takes28_4 : Calls Tryz.prog 123 #[.int .i64 4] w fun e w' => e = .returned (.int .i64 ((effI 4).1 : Int)) ∧ w = w' := by
  go_enter Tryz.func123, Tryz.ntmps123
  go_wp2_with fail
  go_ret
  exact ⟨rfl, rfl⟩
theorem takes28_5 : Calls Tryz.prog 123 #[.int .i64 5] w fun e w' => e = .returned (.int .i64 ((effI 5).1 : Int)) ∧ w = w' := by
  go_enter Tryz.func123, Tryz.ntmps123
  go_wp2_with fail
  go_ret
  exact ⟨rfl, rfl⟩
theorem takes28_6 : Calls Tryz.prog 123 #[.int .i64 6] w fun e w' => e = .returned (.int .i64 ((effI 6).1 : Int)) ∧ w = w' := by
  go_enter Tryz.func123, Tryz.ntmps123
  go_wp2_with fail
  go_ret
  exact ⟨rfl, rfl⟩
theorem takes28_7 : Calls Tryz.prog 123 #[.int .i64 7] w fun e w' => e = .returned (.int .i64 ((effI 7).1 : Int)) ∧ w = w' := by
  go_enter Tryz.func123, Tryz.ntmps123
  go_wp2_with fail
  go_ret
  exact ⟨rfl, rfl⟩
theorem takes28_8 : Calls Tryz.prog 123 #[.int .i64 8] w fun e w' => e = .returned (.int .i64 ((effI 8).1 : Int)) ∧ w = w' := by
  go_enter Tryz.func123, Tryz.ntmps123
  go_wp2_with fail
  go_ret
  exact ⟨rfl, rfl⟩
theorem takes28_9 : Calls Tryz.prog 123 #[.int .i64 9] w fun e w' => e = .returned (.int .i64 ((effI 9).1 : Int)) ∧ w = w' := by
  go_enter Tryz.func123, Tryz.ntmps123
  go_wp2_with fail
  go_ret
  exact ⟨rfl, rfl⟩
theorem takes28_10 : Calls Tryz.prog 123 #[.int .i64 10] w fun e w' => e = .returned (.int .i64 ((effI 10).1 : Int)) ∧ w = w' := by
  go_enter Tryz.func123, Tryz.ntmps123
  go_wp2_with fail
  go_ret
  exact ⟨rfl, rfl⟩
theorem takes28_11 : Calls Tryz.prog 123 #[.int .i64 11] w fun e w' => e = .returned (.int .i64 ((effI 11).1 : Int)) ∧ w = w' := by
  go_enter Tryz.func123, Tryz.ntmps123
  go_wp2_with fail
  go_ret
  exact ⟨rfl, rfl⟩
theorem takes28_12 : Calls Tryz.prog 123 #[.int .i64 12] w fun e w' => e = .returned (.int .i64 ((effI 12).1 : Int)) ∧ w = w' := by
  go_enter Tryz.func123, Tryz.ntmps123
  go_wp2_with fail
  go_ret
  exact ⟨rfl, rfl⟩
theorem takes28_13 : Calls Tryz.prog 123 #[.int .i64 13] w fun e w' => e = .returned (.int .i64 ((effI 13).1 : Int)) ∧ w = w' := by
  go_enter Tryz.func123, Tryz.ntmps123
  go_wp2_with fail
  go_ret
  exact ⟨rfl, rfl⟩
theorem takes28_14 : Calls Tryz.prog 123 #[.int .i64 14] w fun e w' => e = .returned (.int .i64 ((effI 14).1 : Int)) ∧ w = w' := by
  go_enter Tryz.func123, Tryz.ntmps123
  go_wp2_with fail
  go_ret
  exact ⟨rfl, rfl⟩
theorem takes28_15 : Calls Tryz.prog 123 #[.int .i64 15] w fun e w' => e = .returned (.int .i64 ((effI 15).1 : Int)) ∧ w = w' := by
  go_enter Tryz.func123, Tryz.ntmps123
  go_wp2_with fail
  go_ret
  exact ⟨rfl, rfl⟩
theorem takes28_16 : Calls Tryz.prog 123 #[.int .i64 16] w fun e w' => e = .returned (.int .i64 ((effI 16).1 : Int)) ∧ w = w' := by
  go_enter Tryz.func123, Tryz.ntmps123
  go_wp2_with fail
  go_ret
  exact ⟨rfl, rfl⟩
theorem takes28_17 : Calls Tryz.prog 123 #[.int .i64 17] w fun e w' => e = .returned (.int .i64 ((effI 17).1 : Int)) ∧ w = w' := by
  go_enter Tryz.func123, Tryz.ntmps123
  go_wp2_with fail
  go_ret
  exact ⟨rfl, rfl⟩
theorem takes28_18 : Calls Tryz.prog 123 #[.int .i64 18] w fun e w' => e = .returned (.int .i64 ((effI 18).1 : Int)) ∧ w = w' := by
  go_enter Tryz.func123, Tryz.ntmps123
  go_wp2_with fail
  go_ret
  exact ⟨rfl, rfl⟩
theorem takes28_19 : Calls Tryz.prog 123 #[.int .i64 19] w fun e w' => e = .returned (.int .i64 ((effI 19).1 : Int)) ∧ w = w' := by
  go_enter Tryz.func123, Tryz.ntmps123
  go_wp2_with fail
  go_ret
  exact ⟨rfl, rfl⟩
theorem takes28_20 : Calls Tryz.prog 123 #[.int .i64 20] w fun e w' => e = .returned (.int .i64 ((effI 20).1 : Int)) ∧ w = w' := by
  go_enter Tryz.func123, Tryz.ntmps123
  go_wp2_with fail
  go_ret
  exact ⟨rfl, rfl⟩
theorem takes28_21 : Calls Tryz.prog 123 #[.int .i64 21] w fun e w' => e = .returned (.int .i64 ((effI 21).1 : Int)) ∧ w = w' := by
  go_enter Tryz.func123, Tryz.ntmps123
  go_wp2_with fail
  go_ret
  exact ⟨rfl, rfl⟩
theorem takes28_22 : Calls Tryz.prog 123 #[.int .i64 22] w fun e w' => e = .returned (.int .i64 ((effI 22).1 : Int)) ∧ w = w' := by
  go_enter Tryz.func123, Tryz.ntmps123
  go_wp2_with fail
  go_ret
  exact ⟨rfl, rfl⟩
theorem takes28_23 : Calls Tryz.prog 123 #[.int .i64 23] w fun e w' => e = .returned (.int .i64 ((effI 23).1 : Int)) ∧ w = w' := by
  go_enter Tryz.func123, Tryz.ntmps123
  go_wp2_with fail
  go_ret
  exact ⟨rfl, rfl⟩
theorem takes28 {i : Nat} (hi : i < 24) : Calls Tryz.prog 123 #[.int .i64 (i : Int)] w fun e w' => e = .returned (.int .i64 ((effI i).1 : Int)) ∧ w = w' := by
  match i, hi with
  | 0, _ => exact takes28_0
  | 1, _ => exact takes28_1
  | 2, _ => exact takes28_2
  | 3, _ => exact takes28_3
  | 4, _ => exact takes28_4
  | 5, _ => exact takes28_5
  | 6, _ => exact takes28_6
  | 7, _ => exact takes28_7
  | 8, _ => exact takes28_8
  | 9, _ => exact takes28_9
  | 10, _ => exact takes28_10
  | 11, _ => exact takes28_11
  | 12, _ => exact takes28_12
  | 13, _ => exact takes28_13
  | 14, _ => exact takes28_14
  | 15, _ => exact takes28_15
  | 16, _ => exact takes28_16
  | 17, _ => exact takes28_17
  | 18, _ => exact takes28_18
  | 19, _ => exact takes28_19
  | 20, _ => exact takes28_20
  | 21, _ => exact takes28_21
  | 22, _ => exact takes28_22
  | 23, _ => exact takes28_23
  | n + 24, h => exact absurd h (by omega)
theorem pushes29_0 : Calls Tryz.prog 124 #[.int .i64 0] w fun e w' => e = .returned (.int .i64 ((effI 0).2 : Int)) ∧ w = w' := by
  go_enter Tryz.func124, Tryz.ntmps124
  go_wp2_with fail
  go_ret
  exact ⟨rfl, rfl⟩
theorem pushes29_1 : Calls Tryz.prog 124 #[.int .i64 1] w fun e w' => e = .returned (.int .i64 ((effI 1).2 : Int)) ∧ w = w' := by
  go_enter Tryz.func124, Tryz.ntmps124
  go_wp2_with fail
  go_ret
  exact ⟨rfl, rfl⟩
theorem pushes29_2 : Calls Tryz.prog 124 #[.int .i64 2] w fun e w' => e = .returned (.int .i64 ((effI 2).2 : Int)) ∧ w = w' := by
  go_enter Tryz.func124, Tryz.ntmps124
  go_wp2_with fail
  go_ret
  exact ⟨rfl, rfl⟩
theorem pushes29_3 : Calls Tryz.prog 124 #[.int .i64 3] w fun e w' => e = .returned (.int .i64 ((effI 3).2 : Int)) ∧ w = w' := by
  go_enter Tryz.func124, Tryz.ntmps124
  go_wp2_with fail
  go_ret
  exact ⟨rfl, rfl⟩
theorem pushes29_4 : Calls Tryz.prog 124 #[.int .i64 4] w fun e w' => e = .returned (.int .i64 ((effI 4).2 : Int)) ∧ w = w' := by
  go_enter Tryz.func124, Tryz.ntmps124
  go_wp2_with fail
  go_ret
  exact ⟨rfl, rfl⟩
theorem pushes29_5 : Calls Tryz.prog 124 #[.int .i64 5] w fun e w' => e = .returned (.int .i64 ((effI 5).2 : Int)) ∧ w = w' := by
  go_enter Tryz.func124, Tryz.ntmps124
  go_wp2_with fail
  go_ret
  exact ⟨rfl, rfl⟩
theorem pushes29_6 : Calls Tryz.prog 124 #[.int .i64 6] w fun e w' => e = .returned (.int .i64 ((effI 6).2 : Int)) ∧ w = w' := by
  go_enter Tryz.func124, Tryz.ntmps124
  go_wp2_with fail
  go_ret
  exact ⟨rfl, rfl⟩
theorem pushes29_7 : Calls Tryz.prog 124 #[.int .i64 7] w fun e w' => e = .returned (.int .i64 ((effI 7).2 : Int)) ∧ w = w' := by
  go_enter Tryz.func124, Tryz.ntmps124
  go_wp2_with fail
  go_ret
  exact ⟨rfl, rfl⟩
theorem pushes29_8 : Calls Tryz.prog 124 #[.int .i64 8] w fun e w' => e = .returned (.int .i64 ((effI 8).2 : Int)) ∧ w = w' := by
  go_enter Tryz.func124, Tryz.ntmps124
  go_wp2_with fail
  go_ret
  exact ⟨rfl, rfl⟩
theorem pushes29_9 : Calls Tryz.prog 124 #[.int .i64 9] w fun e w' => e = .returned (.int .i64 ((effI 9).2 : Int)) ∧ w = w' := by
  go_enter Tryz.func124, Tryz.ntmps124
  go_wp2_with fail
  go_ret
  exact ⟨rfl, rfl⟩
theorem pushes29_10 : Calls Tryz.prog 124 #[.int .i64 10] w fun e w' => e = .returned (.int .i64 ((effI 10).2 : Int)) ∧ w = w' := by
  go_enter Tryz.func124, Tryz.ntmps124
  go_wp2_with fail
  go_ret
  exact ⟨rfl, rfl⟩
theorem pushes29_11 : Calls Tryz.prog 124 #[.int .i64 11] w fun e w' => e = .returned (.int .i64 ((effI 11).2 : Int)) ∧ w = w' := by
  go_enter Tryz.func124, Tryz.ntmps124
  go_wp2_with fail
  go_ret
  exact ⟨rfl, rfl⟩
theorem pushes29_12 : Calls Tryz.prog 124 #[.int .i64 12] w fun e w' => e = .returned (.int .i64 ((effI 12).2 : Int)) ∧ w = w' := by
  go_enter Tryz.func124, Tryz.ntmps124
  go_wp2_with fail
  go_ret
  exact ⟨rfl, rfl⟩
theorem pushes29_13 : Calls Tryz.prog 124 #[.int .i64 13] w fun e w' => e = .returned (.int .i64 ((effI 13).2 : Int)) ∧ w = w' := by
  go_enter Tryz.func124, Tryz.ntmps124
  go_wp2_with fail
  go_ret
  exact ⟨rfl, rfl⟩
theorem pushes29_14 : Calls Tryz.prog 124 #[.int .i64 14] w fun e w' => e = .returned (.int .i64 ((effI 14).2 : Int)) ∧ w = w' := by
  go_enter Tryz.func124, Tryz.ntmps124
  go_wp2_with fail
  go_ret
  exact ⟨rfl, rfl⟩
theorem pushes29_15 : Calls Tryz.prog 124 #[.int .i64 15] w fun e w' => e = .returned (.int .i64 ((effI 15).2 : Int)) ∧ w = w' := by
  go_enter Tryz.func124, Tryz.ntmps124
  go_wp2_with fail
  go_ret
  exact ⟨rfl, rfl⟩
theorem pushes29_16 : Calls Tryz.prog 124 #[.int .i64 16] w fun e w' => e = .returned (.int .i64 ((effI 16).2 : Int)) ∧ w = w' := by
  go_enter Tryz.func124, Tryz.ntmps124
  go_wp2_with fail
  go_ret
  exact ⟨rfl, rfl⟩
theorem pushes29_17 : Calls Tryz.prog 124 #[.int .i64 17] w fun e w' => e = .returned (.int .i64 ((effI 17).2 : Int)) ∧ w = w' := by
  go_enter Tryz.func124, Tryz.ntmps124
  go_wp2_with fail
  go_ret
  exact ⟨rfl, rfl⟩
theorem pushes29_18 : Calls Tryz.prog 124 #[.int .i64 18] w fun e w' => e = .returned (.int .i64 ((effI 18).2 : Int)) ∧ w = w' := by
  go_enter Tryz.func124, Tryz.ntmps124
  go_wp2_with fail
  go_ret
  exact ⟨rfl, rfl⟩
theorem pushes29_19 : Calls Tryz.prog 124 #[.int .i64 19] w fun e w' => e = .returned (.int .i64 ((effI 19).2 : Int)) ∧ w = w' := by
  go_enter Tryz.func124, Tryz.ntmps124
  go_wp2_with fail
  go_ret
  exact ⟨rfl, rfl⟩
theorem pushes29_20 : Calls Tryz.prog 124 #[.int .i64 20] w fun e w' => e = .returned (.int .i64 ((effI 20).2 : Int)) ∧ w = w' := by
  go_enter Tryz.func124, Tryz.ntmps124
  go_wp2_with fail
  go_ret
  exact ⟨rfl, rfl⟩
theorem pushes29_21 : Calls Tryz.prog 124 #[.int .i64 21] w fun e w' => e = .returned (.int .i64 ((effI 21).2 : Int)) ∧ w = w' := by
  go_enter Tryz.func124, Tryz.ntmps124
  go_wp2_with fail
  go_ret
  exact ⟨rfl, rfl⟩
theorem pushes29_22 : Calls Tryz.prog 124 #[.int .i64 22] w fun e w' => e = .returned (.int .i64 ((effI 22).2 : Int)) ∧ w = w' := by
  go_enter Tryz.func124, Tryz.ntmps124
  go_wp2_with fail
  go_ret
  exact ⟨rfl, rfl⟩
theorem pushes29_23 : Calls Tryz.prog 124 #[.int .i64 23] w fun e w' => e = .returned (.int .i64 ((effI 23).2 : Int)) ∧ w = w' := by
  go_enter Tryz.func124, Tryz.ntmps124
  go_wp2_with fail
  go_ret
  exact ⟨rfl, rfl⟩
theorem pushes29 {i : Nat} (hi : i < 24) : Calls Tryz.prog 124 #[.int .i64 (i : Int)] w fun e w' => e = .returned (.int .i64 ((effI i).2 : Int)) ∧ w = w' := by
  match i, hi with
  | 0, _ => exact pushes29_0
  | 1, _ => exact pushes29_1
  | 2, _ => exact pushes29_2
  | 3, _ => exact pushes29_3
  | 4, _ => exact pushes29_4
  | 5, _ => exact pushes29_5
  | 6, _ => exact pushes29_6
  | 7, _ => exact pushes29_7
  | 8, _ => exact pushes29_8
  | 9, _ => exact pushes29_9
  | 10, _ => exact pushes29_10
  | 11, _ => exact pushes29_11
  | 12, _ => exact pushes29_12
  | 13, _ => exact pushes29_13
  | 14, _ => exact pushes29_14
  | 15, _ => exact pushes29_15
  | 16, _ => exact pushes29_16
  | 17, _ => exact pushes29_17
  | 18, _ => exact pushes29_18
  | 19, _ => exact pushes29_19
  | 20, _ => exact pushes29_20
  | 21, _ => exact pushes29_21
  | 22, _ => exact pushes29_22
  | 23, _ => exact pushes29_23
  | n + 24, h => exact absurd h (by omega)
end
end Go.Proofs.YtngnenbidpojeaaGreatDoor
