import Derived.Test.YtngnenbidpojeaaGreatDoorT16
import Derived.Test.YtngnenbidpojeaaGreatDoorT18
import Derived.Test.YtngnenbidpojeaaGreatDoorT21
import Derived.Test.YtngnenbidpojeaaGreatDoorT23
/-
 isKey, choices, fits, Formed.
-/
namespace Go.Proofs.YtngnenbidpojeaaGreatDoor
open Go.RowKit
set_option maxRecDepth 100000
set_option linter.unusedVariables false
section
variable {w : World}
set_option maxHeartbeats 1000000 in
theorem isKey30 (s : List UInt8) (hs : s.length ≤ 9223372036854775807) : Calls Tryz.prog 92 #[.string ⟨s.toArray⟩] w fun e w' => e = .returned (.bool (isKey s)) ∧ w = w' := by
 have hz : (⟨s.toArray⟩ : ByteArray).size = s.length := by simp [ByteArray.size]
 unfold isKey
 by_cases h1 : 1 ≤ s.length
 ·have h1' : (1 : Int) ≤ (s.length : Int) := by omega
  by_cases h2 : s.length ≤ 40
  ·have h2' : (s.length : Int) ≤ 40 := by omega
   have e : (decide (1 ≤ s.length) && decide (s.length ≤ 40)) = true := by simp [h1, h2]
   rw [e]
   go_enter Tryz.func92, Tryz.ntmps92
   go_wp2_with fail
   go_ret
   exact ⟨rfl, rfl⟩
  ·have h2' : ¬ (s.length : Int) ≤ 40 := by omega
   have e : (decide (1 ≤ s.length) && decide (s.length ≤ 40)) = false := by simp [h2]
   rw [e]
   go_enter Tryz.func92, Tryz.ntmps92
   go_wp2_with fail
   go_ret
   exact ⟨rfl, rfl⟩
 ·have h1' : ¬ (1 : Int) ≤ (s.length : Int) := by omega
  have e : (decide (1 ≤ s.length) && decide (s.length ≤ 40)) = false := by simp [h1]
  rw [e]
  go_enter Tryz.func92, Tryz.ntmps92
  go_wp2_with fail
  go_ret
  exact ⟨rfl, rfl⟩
set_option maxHeartbeats 1000000 in
theorem choices61 {a b : Option Addr} {nn nc c d : Nat} (k : Nat) (hk : k ≤ 5) (hn : nn ≤ 1000) (hc : nc ≤ 1000) : Calls Tryz.prog 122 #[.agg #[.slice a nn c, .slice b nc d], .int .i64 (k : Int)] w fun e w' => e = .returned (.int .i64 (choiceN nn nc k)) ∧ Kept [] w w' := by
 unfold choiceN
 match k, hk with
 | 0, _ =>
  go_enter Tryz.func122, Tryz.ntmps122
  go_wp2_with fail
  go_ret
  exact ⟨rfl, (Kept.refl [] w).alloc _⟩
 | 1, _ =>
  go_enter Tryz.func122, Tryz.ntmps122
  go_wp2_with fail
  go_ret
  exact ⟨rfl, (Kept.refl [] w).alloc _⟩
 | 2, _ =>
  go_enter Tryz.func122, Tryz.ntmps122
  go_wp2_with fail
  go_ret
  exact ⟨rfl, (Kept.refl [] w).alloc _⟩
 | 3, _ =>
  go_enter Tryz.func122, Tryz.ntmps122
  go_wp2_with fail
  go_ret
  exact ⟨rfl, (Kept.refl [] w).alloc _⟩
 | 4, _ =>
  have hc' : (nc : Int) ≤ 1000 := by omega
  go_enter Tryz.func122, Tryz.ntmps122
  go_wp2_with fail
  go_ret
  exact ⟨rfl, (Kept.refl [] w).alloc _⟩
 | 5, _ =>
  go_enter Tryz.func122, Tryz.ntmps122
  go_wp2_with fail
  go_ret
  exact ⟨rfl, (Kept.refl [] w).alloc _⟩
end
section
variable {w : World}
set_option maxHeartbeats 1000000 in
theorem fits31 {a b : Option Addr} {nn nc c d : Nat} (hG : Glob w) (x : In) (hn : nn ≤ 1000) (hc : nc ≤ 1000) : Calls Tryz.prog 93 #[.agg #[.slice a nn c, .slice b nc d], .agg #[.int .i64 x.op, .int .i64 x.arg]] w fun e w' => e = .returned (.bool (okI nn nc x)) ∧ Kept [] w w' := by
 by_cases h0 : x.op < 0
 ·rw [okI_out (.inl h0)]
  go_enter Tryz.func93, Tryz.ntmps93
  go_wp2_with fail
  go_ret
  exact ⟨rfl, ((Kept.refl [] w).alloc _).alloc _⟩
 by_cases h1 : 24 ≤ x.op
 ·rw [okI_out (.inr h1)]
  have h1' : x.op ≥ 24 := h1
  go_enter Tryz.func93, Tryz.ntmps93
  go_wp2_with fail
  go_ret
  exact ⟨rfl, ((Kept.refl [] w).alloc _).alloc _⟩
 obtain ⟨i, hi⟩ : ∃ i : Nat, x.op = (i : Int) := ⟨x.op.toNat, by omega⟩
 have hil : i < 24 := by omega
 obtain ⟨s, k, hw, hk, -, c1⟩ := op_at hG hil
 rw [okI_at hi hw hk, hi]
 have z0 : 0 < w.heap.size := World.block_lt_of_cell? _ _ c1
 rw [Nat.mul_comm] at c1
 have HG := Hid.mk hG
 have hI0 : (0 : Int) ≤ (i : Int) := by omega
 have hI1 : ¬ ((i : Int) < 0) := by omega
 have hI2 : ¬ ((24 : Int) ≤ (i : Int)) := by omega
 have hI3 : (i : Int) < 24 := by omega
 have HC : Hid (∀ W, Calls Tryz.prog 122 #[.agg #[.slice a nn c, .slice b nc d], .int .i64 (k : Int)] W fun e w' => e = .returned (.int .i64 (choiceN nn nc k)) ∧ Kept [] W w') := fun W => choices61 k hk hn hc
 generalize choiceN nn nc k = m at HC ⊢
 generalize x.arg = arg
 clear hi h0 h1 hw hG
 obtain ⟨W0, e0, k0, hz0, hb0, hb1⟩ := box2 w (.cells #[.slice a nn c, .slice b nc d] 44) (.cells #[.int .i64 i, .int .i64 arg] 83)
 have z1 : ∀ z : KW W0, z.w.cell? ⟨w.heap.size + 1, 1, none⟩ = some (.int .i64 arg) := fun z => z.k.cell_eq (by simp [World.cell?, hb1])
 have z2 : ∀ z : KW W0, z.w.cell? ⟨w.heap.size, 0, none⟩ = some (.slice a nn c) := fun z => z.k.cell_eq (by simp [World.cell?, hb0])
 have z3 : ∀ z : KW W0, z.w.cell? ⟨w.heap.size, 1, none⟩ = some (.slice b nc d) := fun z => z.k.cell_eq (by simp [World.cell?, hb0])
 have y0 : W0.cell? ⟨w.heap.size + 1, 0, none⟩ = some (.int .i64 i) := by simp [World.cell?, hb1]
 have y1 : W0.cell? ⟨w.heap.size + 1, 1, none⟩ = some (.int .i64 arg) := by simp [World.cell?, hb1]
 have y2 : W0.cell? ⟨0, i * 2 + 1, none⟩ = some (.int .i64 (k : Int)) := k0.cell_eq c1
 have HK0 := Hid.mk k0
 clear k0 hb0 hb1 hz0 c1
 have base : (∀ R : Bool, Hid ((decide (k = 1) || (decide (0 ≤ arg) && decide (arg < m))) = R) → Calls Tryz.prog 93 #[.agg #[.slice a nn c, .slice b nc d], .agg #[.int .i64 (i : Int), .int .i64 arg]] w fun e w' => e = .returned (.bool R) ∧ Kept [] w w') → Calls Tryz.prog 93 #[.agg #[.slice a nn c, .slice b nc d], .agg #[.int .i64 (i : Int), .int .i64 arg]] w fun e w' => e = .returned (.bool (decide (k = 1) || (decide (0 ≤ arg) && decide (arg < m)))) ∧ Kept [] w w' := fun h => h _ (Hid.mk rfl)
 refine base ?_
 clear base
 intro R HR
 by_cases hk1 : k = 1
 ·subst hk1
  obtain rfl : R = true := by rw [← HR.out]; simp
  clear HR
  go_enter Tryz.func93, Tryz.ntmps93
  go_wp2_with fail
  refine wp_region_kw (C := fun W => ∃ z : KW W0, W = z.w) (by kernel_rfl) (by kernel_rfl) ⟨⟨W0.drew, (Kept.refl [] W0).drew⟩, rfl⟩ ?_
  repeat (go_big_quiet_step (first | (go_at_call 122; exact calls_kw (HC.out _)) | fail))
  refine wpQuiet_nil ?_
  rintro _ ⟨z, rfl⟩
  go_wp2_with fail
  go_ret
  exact ⟨rfl, HK0.out.then z.k⟩
 have t1 : ((k : Int) == 1) = false := by simpa using fun e : (k : Int) = 1 => hk1 (by omega)
 by_cases ha : 0 ≤ arg
 ·by_cases hm : arg < m
  ·obtain rfl : R = true := by rw [← HR.out]; simp [ha, hm]
   clear HR
   go_enter Tryz.func93, Tryz.ntmps93
   go_wp2_with fail
   refine wp_region_kw (C := fun W => ∃ z : KW W0, W = z.w) (by kernel_rfl) (by kernel_rfl) ⟨⟨W0.drew, (Kept.refl [] W0).drew⟩, rfl⟩ ?_
   repeat (go_big_quiet_step (first | (go_at_call 122; exact calls_kw (HC.out _)) | fail))
   refine wpQuiet_nil ?_
   rintro _ ⟨z, rfl⟩
   go_wp2_with fail
   go_ret
   exact ⟨rfl, HK0.out.then z.k⟩
  ·obtain rfl : R = false := by rw [← HR.out]; simp [hk1, hm]
   clear HR
   have t2 : decide (arg < m) = false := by simpa using hm
   go_enter Tryz.func93, Tryz.ntmps93
   go_wp2_with fail
   refine wp_region_kw (C := fun W => ∃ z : KW W0, W = z.w) (by kernel_rfl) (by kernel_rfl) ⟨⟨W0.drew, (Kept.refl [] W0).drew⟩, rfl⟩ ?_
   repeat (go_big_quiet_step (first | (go_at_call 122; exact calls_kw (HC.out _)) | fail))
   refine wpQuiet_nil ?_
   rintro _ ⟨z, rfl⟩
   go_wp2_with fail
   go_ret
   exact ⟨rfl, HK0.out.then z.k⟩
 ·obtain rfl : R = false := by rw [← HR.out]; simp [hk1, ha]
  clear HR
  have t2 : decide (0 ≤ arg) = false := by simpa using ha
  have t3 : decide (arg ≥ 0) = false := t2
  go_enter Tryz.func93, Tryz.ntmps93
  go_wp2_with fail
  refine wp_region_kw (C := fun W => ∃ z : KW W0, W = z.w) (by kernel_rfl) (by kernel_rfl) ⟨⟨W0.drew, (Kept.refl [] W0).drew⟩, rfl⟩ ?_
  repeat (go_big_quiet_step (first | (go_at_call 122; exact calls_kw (HC.out _)) | fail))
  refine wpQuiet_nil ?_
  rintro _ ⟨z, rfl⟩
  go_wp2_with fail
  go_ret
  exact ⟨rfl, HK0.out.then z.k⟩
end
theorem formed_wrong {p : Pg} (h : 8 < p.names.length ∨ 200 < p.code.length) : formedP p = false := by
 cases e : formedP p with
 | false => rfl
 | true => have := formed_parts e; omega
theorem all_false {α : Type} {f : α → Bool} {l : List α} {j : Nat} (hj : j < l.length) (h : f l[j] = false) : l.all f = false := by
 cases e : l.all f with
 | false => rfl
 | true => rw [List.all_eq_true.1 e _ (List.getElem_mem hj)] at h; cases h
theorem formed_name {p : Pg} {j : Nat} (hj : j < p.names.length) (h : isKey p.names[j] = false) : formedP p = false := by
 unfold formedP
 rw [all_false hj h]
 simp
theorem formed_code {p : Pg} {j : Nat} (hj : j < p.code.length) (h : okI p.names.length p.code.length p.code[j] = false) : formedP p = false := by
 unfold formedP
 rw [all_false hj h]
 simp
theorem all_true {α : Type} {f : α → Bool} {l : List α} (h : ∀ i (hi : i < l.length), f l[i] = true) : l.all f = true := by
 rw [List.all_eq_true]
 intro x hx
 obtain ⟨i, hi, rfl⟩ := List.getElem_of_mem hx
 exact h i hi
theorem formed_yes {p : Pg} (h1 : p.names.length ≤ 8) (h2 : p.code.length ≤ 200) (h3 : ∀ i (hi : i < p.names.length), isKey p.names[i] = true) (h4 : ∀ i (hi : i < p.code.length), okI p.names.length p.code.length p.code[i] = true) : formedP p = true := by
 unfold formedP
 rw [all_true h3, all_true h4]
 simp [h1, h2]
section
variable {w : World}
set_option maxHeartbeats 1000000 in
theorem formed13_N {v u : Value} {p : Pg} (hP : IsP_N w v u p) (hK : ∀ s ∈ p.names, s.length ≤ 9223372036854775807) (hG : Glob w) :
  Calls Tryz.prog 32 #[.agg #[v, u]] w fun e w' => e = .returned (.bool (formedP p)) ∧ Kept [] w w' := by
 obtain ⟨a, c, b, d, rfl, rfl, hl1, hl2⟩ := hP.form
 have HF : Hid (∀ (W : World) (x : In) (a b : Option Addr) (c d : Nat), Kept [] w W → p.names.length ≤ 1000 → p.code.length ≤ 1000 → Calls Tryz.prog 93 #[.agg #[.slice a p.names.length c, .slice b p.code.length d], .agg #[.int .i64 x.op, .int .i64 x.arg]] W fun e w' => e = .returned (.bool (okI p.names.length p.code.length x)) ∧ Kept [] W w') := fun W x a b c d k h1 h2 => fits31 (hG.kept k) x h1 h2
 clear hG
 have HP := Hid.mk hP
 obtain ⟨W0, e0, k0, hz0, hb0⟩ := box1 w (.cells #[.slice a p.names.length c, .slice b p.code.length d] 44)
 have y0 : W0.cell? ⟨w.heap.size, 0, none⟩ = some (.slice a p.names.length c) := by simp [World.cell?, hb0]
 have y1 : W0.cell? ⟨w.heap.size, 1, none⟩ = some (.slice b p.code.length d) := by simp [World.cell?, hb0]
 have HK0 := Hid.mk k0
 clear k0 hb0 hz0 hP
 obtain ⟨R, HR⟩ : ∃ R, Hid (formedP p = R) := ⟨_, rfl⟩
 rw [HR.out]
 by_cases hA : 8 < p.names.length
 ·obtain rfl : R = false := by rw [← HR.out]; exact formed_wrong (.inl hA)
  have hA' : (8 : Int) < (p.names.length : Int) := by omega
  clear HR
  go_enter Tryz.func32, Tryz.ntmps32
  go_wp2_with fail
  go_ret
  exact ⟨rfl, HK0.out⟩
 have hA' : ¬ (8 : Int) < (p.names.length : Int) := by omega
 by_cases hB : 200 < p.code.length
 ·obtain rfl : R = false := by rw [← HR.out]; exact formed_wrong (.inr hB)
  have hB' : (200 : Int) < (p.code.length : Int) := by omega
  clear HR
  go_enter Tryz.func32, Tryz.ntmps32
  go_wp2_with fail
  go_ret
  exact ⟨rfl, HK0.out⟩
 have hB' : ¬ (200 : Int) < (p.code.length : Int) := by omega
 go_enter Tryz.func32, Tryz.ntmps32
 go_wp2_with fail
 generalize hg : w.heap.size = g at *
 clear hg
 go_loopw [20] (fun i wr => ∃ j : Nat, Hid (Kept [] W0 wr) ∧ i = .int .i64 (j : Int) ∧ j ≤ p.names.length ∧ Hid (∀ i (hi : i < p.names.length), i < j → isKey p.names[i] = true)) (fun i _ => p.names.length - (intOf i).toNat)
 case atStart => exact ⟨0, Hid.mk (Kept.refl [] W0), rfl, by omega, Hid.mk (fun _ _ h => by omega)⟩
 case round =>
  obtain ⟨j, HW, rfl, hj, HJ⟩ := hrel
  have HKW := Hid.mk (HK0.out.then HW.out)
  have y1' : wr.cell? ⟨g, 1, none⟩ = some (.slice b p.code.length d) := HW.out.cell_eq y1
  by_cases hlt : j < p.names.length
  ·obtain ⟨b1, o1, rfl, hc1⟩ := names_at (HP.out.names.keep HKW.out) hlt
   have hjI : (j : Int) < (p.names.length : Int) := by omega
   have hj0 : (0 : Int) ≤ (j : Int) := by omega
   have HC := Hid.mk (isKey30 (w := wr) p.names[j] (hK _ (List.getElem_mem hlt)))
   have hc1' : wr.cell? ⟨b1, o1 + j * 1, none⟩ = some (.string ⟨p.names[j].toArray⟩) := by rw [Nat.mul_one]; exact hc1
   have HY := Hid.mk (fun h => formed_name (p := p) hlt h)
   have HT : Hid (isKey p.names[j] = true → ∀ i (hi : i < p.names.length), i < j + 1 → isKey p.names[i] = true) := fun h i hi hij => by
    by_cases e : i = j
    ·subst e; exact h
    ·exact HJ.out i hi (by omega)
   cases hk : isKey p.names[j] with
   | false =>
    rw [hk] at HC
    obtain rfl : R = false := by rw [← HR.out]; exact HY.out hk
    clear HR HJ HT hk
    generalize (⟨p.names[j].toArray⟩ : ByteArray) = q at *
    go_wp2_with fail
    refine HC.out.mono ?_
    rintro e w1 ⟨rfl, rfl⟩
    go_wp2_with fail
    go_ret
    exact ⟨rfl, HKW.out⟩
   | true =>
    rw [hk] at HC
    have HT' := Hid.mk (HT.out hk)
    clear HJ HT hk
    generalize (⟨p.names[j].toArray⟩ : ByteArray) = q at *
    go_wp2_with fail
    refine HC.out.mono ?_
    rintro e w1 ⟨rfl, rfl⟩
    go_wp2_with fail
    go_roundw
    case rel => exact ⟨j + 1, HW, by go_num, by omega, HT'⟩
    case measure => simp [intOf]; omega
  ·have hje : ¬ (j : Int) < (p.names.length : Int) := by omega
   have HJ' : Hid (∀ i (hi : i < p.names.length), isKey p.names[i] = true) := fun i hi => HJ.out i hi (by omega)
   clear HJ
   go_wp2_with fail
   generalize wr = W1 at *
   go_loopw [31] (fun i wr => ∃ j : Nat, Hid (Kept [] W1 wr) ∧ i = .int .i64 (j : Int) ∧ j ≤ p.code.length ∧ Hid (∀ i (hi : i < p.code.length), i < j → okI p.names.length p.code.length p.code[i] = true)) (fun i _ => p.code.length - (intOf i).toNat)
   case atStart => exact ⟨0, Hid.mk (Kept.refl [] W1), rfl, by omega, Hid.mk (fun _ _ h => by omega)⟩
   case round =>
    obtain ⟨l, HW2, rfl, hl, HL⟩ := hrel
    have HKV := Hid.mk (HKW.out.then HW2.out)
    have y3 : wr.cell? ⟨g, 0, none⟩ = some (.slice a p.names.length c) := (HW.out.then HW2.out).cell_eq y0
    have y4 : wr.cell? ⟨g, 1, none⟩ = some (.slice b p.code.length d) := HW2.out.cell_eq y1'
    by_cases hlt2 : l < p.code.length
    ·obtain ⟨b1, o1, rfl, hc1, hc2⟩ := code_at (HP.out.code.keep HKV.out) hlt2
     have hjI : (l : Int) < (p.code.length : Int) := by omega
     have hj0 : (0 : Int) ≤ (l : Int) := by omega
     have HC := Hid.mk (fun (W : World) (k : Kept [] w W) => HF.out W p.code[l] a (some ⟨b1, o1, none⟩) c d k (by omega) (by omega))
     have HY := Hid.mk (fun h => formed_code (p := p) hlt2 h)
     have HT : Hid (okI p.names.length p.code.length p.code[l] = true → ∀ i (hi : i < p.code.length), i < l + 1 → okI p.names.length p.code.length p.code[i] = true) := fun h i hi hij => by
      by_cases e : i = l
      ·subst e; exact h
      ·exact HL.out i hi (by omega)
     obtain ⟨W3, e3, k3, hz3, hb3⟩ := box1 wr (.cells #[.int .i64 p.code[l].op, .int .i64 p.code[l].arg] 83)
     have HK3 := Hid.mk k3
     have x0 : W3.cell? ⟨wr.heap.size, 0, none⟩ = some (.int .i64 p.code[l].op) := by simp [World.cell?, hb3]
     have x1 : W3.cell? ⟨wr.heap.size, 1, none⟩ = some (.int .i64 p.code[l].arg) := by simp [World.cell?, hb3]
     have x2 : W3.cell? ⟨g, 0, none⟩ = some (.slice a p.names.length c) := k3.cell_eq y3
     have x3 : W3.cell? ⟨g, 1, none⟩ = some (.slice (some ⟨b1, o1, none⟩) p.code.length d) := k3.cell_eq y4
     clear k3 hz3 hb3
     cases hk : okI p.names.length p.code.length p.code[l] with
     | false =>
      rw [hk] at HC
      obtain rfl : R = false := by rw [← HR.out]; exact HY.out hk
      clear HR HL HT hk HF HJ'
      generalize p.code[l].op = q1 at *
      generalize p.code[l].arg = q2 at *
      go_wp2_with fail
      refine (HC.out W3 (HKV.out.then HK3.out)).mono ?_
      rintro e w4 ⟨rfl, k4⟩
      go_wp2_with fail
      go_ret
      exact ⟨rfl, (HKV.out.then HK3.out).then k4⟩
     | true =>
      rw [hk] at HC
      have HT' := Hid.mk (HT.out hk)
      clear HL HT hk
      generalize p.code[l].op = q1 at *
      generalize p.code[l].arg = q2 at *
      go_wp2_with fail
      refine (HC.out W3 (HKV.out.then HK3.out)).mono ?_
      rintro e w4 ⟨rfl, k4⟩
      go_wp2_with fail
      go_roundw
      case rel => exact ⟨l + 1, Hid.mk ((HW2.out.then HK3.out).then k4), by go_num, by omega, HT'⟩
      case measure => simp [intOf]; omega
    ·have hje2 : ¬ (l : Int) < (p.code.length : Int) := by omega
     have HL' : Hid (∀ i (hi : i < p.code.length), okI p.names.length p.code.length p.code[i] = true) := fun i hi => HL.out i hi (by omega)
     obtain rfl : R = true := by rw [← HR.out]; exact formed_yes (by omega) (by omega) HJ'.out HL'.out
     clear HL HR HL' HJ'
     go_wp2_with fail
     go_ret
     exact ⟨rfl, HKV.out⟩
end
structure IsRs (n : Nat) (w : World) (v : Value) (R : Rsl) : Prop where
 form : ∃ ev sn tm, v = .agg (cellsR R.reg ev sn tm R.k).toArray ∧ ReadsR 2 w ev (rowE R.ev) ∧ ReadsR 3 w sn (rowS R.sent) ∧ ReadsR 5 w tm (rowT R.tm) ∧ (∀ g, ev.ownBlock = some g → n ≤ g) ∧ (∀ g, sn.ownBlock = some g → n ≤ g) ∧ (∀ g, tm.ownBlock = some g → n ≤ g)
 r8 : R.reg.length = 8
structure Ins (w : World) (nv cv av : Value) (p : Pg) (reg : List Int) (l : Lt) (now : Int) : Prop where
 prog : IsP_N w nv cv p
 names : ∀ s ∈ p.names, s.length ≤ 9223372036854775807
 okp : OkP p
 args : ReadsR 1 w av (rowJ l.args)
 ok : l.ok
 fr : l.fr.length ≤ 9223372036854775807
 r8 : reg.length = 8
 regs : ∀ z ∈ reg, I64 z
 now : I64 now
theorem eight_of {reg : List Int} (h : reg.length = 8) : ∃ a0 a1 a2 a3 a4 a5 a6 a7, reg = [a0, a1, a2, a3, a4, a5, a6, a7] := by
 match reg, h with
 | [a0, a1, a2, a3, a4, a5, a6, a7], _ => exact ⟨a0, a1, a2, a3, a4, a5, a6, a7, rfl⟩
theorem isRs_none {n : Nat} (w : World) (k : Nat) : IsRs n w (.agg (cellsR z8_N (.slice none 0 0) (.slice none 0 0) (.slice none 0 0) k).toArray) (Rsl.none k) := ⟨⟨_, _, _, rfl, ReadsR.nil 2 w, ReadsR.nil 3 w, ReadsR.nil 5 w, fun g h => by simp [Value.ownBlock] at h, fun g h => by simp [Value.ownBlock] at h, fun g h => by simp [Value.ownBlock] at h⟩, rfl⟩
theorem size37 : (Tryz.prog.info? 103).map (·.size) = some 12 := by kernel_rfl
section
variable {w : World} {nv cv av : Value} {p : Pg} {reg : List Int} {l : Lt} {now : Int}
set_option maxHeartbeats 4000000 in
theorem run11_no (hG : Glob w) (hI : Ins w nv cv av p reg l now) (hm : mayI p l now = false) : Calls Tryz.prog 34 #[.agg #[nv, cv], .agg (BI_N reg).toArray, .agg #[.string ⟨l.fr.toArray⟩, .int .u64 (l.ser : Int), .int .i64 l.kind, av], .int .i64 now] w fun e w' => ∃ v, e = .returned (.tuple #[v, .int .i64 1]) ∧ IsRs w.heap.size w' v (Rsl.none 0) ∧ Kept [] w w' := by
 obtain ⟨a0, a1, a2, a3, a4, a5, a6, a7, rfl⟩ := eight_of hI.r8
 obtain ⟨a, c, b, d, rfl, rfl, hl1, hl2⟩ := hI.prog.form
 obtain ⟨aa, ac, rfl, ha1, ha2⟩ := hI.args.form
 rw [rowJ_length] at *
 show Calls Tryz.prog 34 #[_, .agg #[.int .i64 a0, .int .i64 a1, .int .i64 a2, .int .i64 a3, .int .i64 a4, .int .i64 a5, .int .i64 a6, .int .i64 a7], _, _] w _
 obtain ⟨W0, e0, k0, hz0, hb0, hb1, hb2, hb3⟩ := box4 w (.cells #[.slice a p.names.length c, .slice b p.code.length d] 44) (.cells #[.int .i64 a0, .int .i64 a1, .int .i64 a2, .int .i64 a3, .int .i64 a4, .int .i64 a5, .int .i64 a6, .int .i64 a7] 84) (.cells #[.string ⟨l.fr.toArray⟩, .int .u64 (l.ser : Int), .int .i64 l.kind, .slice aa l.args.length ac] 81) (.cells #[.int .i64 0, .int .i64 0, .int .i64 0, .int .i64 0, .int .i64 0, .int .i64 0, .int .i64 0, .int .i64 0, .slice none 0 0, .slice none 0 0, .slice none 0 0, .int .i64 0] 103)
 have hb3 : W0.heap[w.heap.size + 1 + 1 + 1]? = some (.cells (cellsR z8_N (.slice none 0 0) (.slice none 0 0) (.slice none 0 0) 0).toArray 103 (0, 0)) := hb3
 obtain ⟨y0, y1⟩ := cells2_N hb0
 obtain ⟨x0, x1, x2, x3⟩ := cells4 hb2
 have HF := Hid.mk (formed13_N (hI.prog.keep k0) hI.names (hG.kept k0))
 have HL := Hid.mk (fun W => lformed18 (w := W) l aa ac hI.fr (by omega))
 have HB2 := Hid.mk hb2
 have HB3 := Hid.mk hb3
 have HK := Hid.mk k0
 have HE : Hid (∀ W, Kept [] W0 W → ∃ W', (Instr.storeAt 103 (.pointer (some ⟨w.heap.size + 1 + 1 + 1, 0, none⟩)) (.agg (cellsR z8_N (.slice none 0 0) (.slice none 0 0) (.slice none 0 0) 0).toArray)).run Tryz.prog W = .ok () W' ∧ W'.heap[w.heap.size + 1 + 1 + 1]? = some (.cells (cellsR z8_N (.slice none 0 0) (.slice none 0 0) (.slice none 0 0) 0).toArray 103 (0, 0)) ∧ Kept [] w W') := fun W kW => by
  obtain ⟨W', h1, h2, h3⟩ := store_whole (P := Tryz.prog) (kW.keeps hb3 (by simp)) rfl size37 (cellsR_one rfl rfl rfl)
  exact ⟨W', h1, h2, (k0.then kW).trans h3 (fun x hx => .inr (by simp at hx; omega))⟩
 clear hb0 hb1 hb2 hb3 hG hI k0 hz0
 unfold mayI at hm
 cases hf : formedP p with
 | false =>
  rw [hf] at HF
  clear hm HL
  go_enter Tryz.func34, Tryz.ntmps34
  go_wp2_with (first | (go_at_call 32; refine HF.out.mono ?_; rintro e w1 ⟨rfl, k1⟩; obtain ⟨W2, hst, hb, kk⟩ := HE.out w1 k1) | (refine wpList_store_run_N 103 (.tmp 8) (.tmp 24) rfl rfl _ _ rfl rfl _ hst ?_))
  exact bodyPost_ret (results_cell_row2 (p := 8) (u := 9) (ty := 103) rfl _ _ (w.heap.size + 1 + 1 + 1) 103 _ (0, 0) _ rfl hb Tryz.underlying103 rfl (by kernel_rfl) _ rfl) rfl ⟨_, rfl, isRs_none _ 0, kk⟩
 | true =>
  rw [hf] at HF hm
  cases hlf : l.formed with
  | false =>
   rw [hlf] at HL
   clear hm
   go_enter Tryz.func34, Tryz.ntmps34
   go_wp2_with (first | (go_at_call 32; refine HF.out.mono ?_; rintro e w1 ⟨rfl, k1⟩; obtain ⟨v0, v1, v2, v3⟩ := cells4 (k1.keeps HB2.out (by simp))) | (go_at_call 74; refine (HL.out _).mono ?_; rintro e w2 ⟨rfl, k2⟩; obtain ⟨W2, hst, hb, kk⟩ := HE.out w2 (k1.then k2)) | (refine wpList_store_run_N 103 (.tmp 8) (.tmp 24) rfl rfl _ _ rfl rfl _ hst ?_))
   exact bodyPost_ret (results_cell_row2 (p := 8) (u := 9) (ty := 103) rfl _ _ (w.heap.size + 1 + 1 + 1) 103 _ (0, 0) _ rfl hb Tryz.underlying103 rfl (by kernel_rfl) _ rfl) rfl ⟨_, rfl, isRs_none _ 0, kk⟩
  | true =>
   rw [hlf] at HL hm
   have hneg : now < 0 := by simpa using hm
   clear hm
   go_enter Tryz.func34, Tryz.ntmps34
   go_wp2_with (first | (go_at_call 32; refine HF.out.mono ?_; rintro e w1 ⟨rfl, k1⟩; obtain ⟨v0, v1, v2, v3⟩ := cells4 (k1.keeps HB2.out (by simp))) | (go_at_call 74; refine (HL.out _).mono ?_; rintro e w2 ⟨rfl, k2⟩; obtain ⟨W2, hst, hb, kk⟩ := HE.out w2 (k1.then k2)) | (refine wpList_store_run_N 103 (.tmp 8) (.tmp 24) rfl rfl _ _ rfl rfl _ hst ?_))
   exact bodyPost_ret (results_cell_row2 (p := 8) (u := 9) (ty := 103) rfl _ _ (w.heap.size + 1 + 1 + 1) 103 _ (0, 0) _ rfl hb Tryz.underlying103 rfl (by kernel_rfl) _ rfl) rfl ⟨_, rfl, isRs_none _ 0, kk⟩
end
end Go.Proofs.YtngnenbidpojeaaGreatDoor
