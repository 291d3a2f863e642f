import Derived.Lib.Bytealg
import Derived.Deep.QuietTactic
import Derived.BigQuiet
import Derived.Test.YtngnenbidpojeaaGreatDoorT06
/-
 The calls of an outbox that only look: isKey, owned, Owner, find, Serial, hasNext.
-/
namespace Go.Proofs.YtngnenbidpojeaaGreatDoor
set_option maxRecDepth 100000
open Go.RowKit
set_option linter.unusedVariables false
theorem cmp_lt : ∀ (a b : List UInt8), Lib.compareBytes a b < 0 ↔ a < b
 | [], [] => by simp [Lib.compareBytes]
 | [], _ :: _ => by simp [Lib.compareBytes]
 | _ :: _, [] => by simp [Lib.compareBytes]
 | x :: a, y :: b => by
  rw [List.cons_lt_cons_iff, Lib.compareBytes]
  by_cases h1 : x < y
  ·simp [h1]
  ·by_cases h2 : y < x
   ·have : ¬ x = y := by rintro rfl; exact h1 h2
    simp [h1, h2, this]
   ·have e : x = y := UInt8.toNat_inj.1 (by rw [UInt8.lt_iff_toNat_lt] at h1 h2; omega)
    subst e
    simp [h1, cmp_lt a b]
theorem cmp_eq : ∀ (a b : List UInt8), Lib.compareBytes a b = 0 ↔ a = b
 | [], [] => by simp [Lib.compareBytes]
 | [], _ :: _ => by simp [Lib.compareBytes]
 | _ :: _, [] => by simp [Lib.compareBytes]
 | x :: a, y :: b => by
  rw [Lib.compareBytes]
  by_cases h1 : x < y
  ·have : ¬ x = y := by rintro rfl; rw [UInt8.lt_iff_toNat_lt] at h1; omega
   simp [h1, this]
  ·by_cases h2 : y < x
   ·have : ¬ x = y := by rintro rfl; exact h1 h2
    simp [h1, h2, this]
   ·have e : x = y := UInt8.toNat_inj.1 (by rw [UInt8.lt_iff_toNat_lt] at h1 h2; omega)
    subst e
    simp [h1, cmp_eq a b]
theorem half_range (i j : Nat) (h : i < j) : (i + j) / 2 < j ∧ i ≤ (i + j) / 2 := by omega
theorem pla_is {K : List La} {to : List UInt8} {j : Nat} (h1 : j ≤ K.length) (h2 : ∀ p y, K[p]? = some y → p < j → y.k < to) (h3 : ∀ p y, K[p]? = some y → j ≤ p → ¬ y.k < to) : pla K to = j := by
 have hle := pla_le K to
 rcases Nat.lt_trichotomy (pla K to) j with h | h | h
 ·obtain ⟨y, hy⟩ : ∃ y, K[pla K to]? = some y := ⟨_, List.getElem?_eq_getElem (by omega)⟩
  exact absurd (h2 _ y hy h) (pla_at hy)
 ·exact h
 ·obtain ⟨y, hy⟩ : ∃ y, K[j]? = some y := ⟨_, List.getElem?_eq_getElem (by omega)⟩
  exact absurd (pla_lt hy h) (h3 _ y hy (Nat.le_refl _))
theorem has_is {K : List La} {to : List UInt8} {y : La} (hy : K[pla K to]? = some y) : hasK K to = decide (y.k = to) := by
 cases hh : hasK K to with
 | true =>
  obtain ⟨s, h1, -⟩ := has_at hh
  rw [h1] at hy
  injection hy with hy
  subst hy
  simp
 | false =>
  have := (has_not hh).2 y hy
  simp [this]
theorem has_none {K : List La} {to : List UInt8} (hy : K[pla K to]? = none) : hasK K to = false := by
 cases hh : hasK K to with
 | true =>
  obtain ⟨s, h1, -⟩ := has_at hh
  rw [h1] at hy
  cases hy
 | false => rfl
section
variable {w : World} {p : Nat} {own : List UInt8} {K : List La} {qs : List Yq}
theorem isKey26 (s : List UInt8) (hs : s.length ≤ 281474976710656) : Calls Tryz.prog 81 #[Sv s] w fun e w' => e = .returned (.bool (isKey s)) ∧ w = w' := by
 have e : isKey s = (decide ((1 : Int) ≤ (s.length : Int)) && decide ((s.length : Int) ≤ 40)) := by
  unfold isKey
  rw [Bool.eq_iff_iff]
  simp
  omega
 rw [e]
 by_cases h1 : (1 : Int) ≤ (s.length : Int)
 ·rw [decide_eq_true h1, Bool.true_and]
  go_enter Tryz.func81, Tryz.ntmps81
  go_wp2_with fail
  all_goals go_ret
  all_goals exact ⟨rfl, rfl⟩
 ·rw [decide_eq_false h1, Bool.false_and]
  go_enter Tryz.func81, Tryz.ntmps81
  go_wp2_with fail
  go_ret
  exact ⟨rfl, rfl⟩
theorem key28 (s : List UInt8) (hs : s.length ≤ 281474976710656) : Calls Tryz.prog 59 #[Sv s] w fun e w' => e = .returned (.bool (isKey s)) ∧ w = w' := by
 have e : isKey s = (decide ((1 : Int) ≤ (s.length : Int)) && decide ((s.length : Int) ≤ 40)) := by
  unfold isKey
  rw [Bool.eq_iff_iff]
  simp
  omega
 rw [e]
 by_cases h1 : (1 : Int) ≤ (s.length : Int)
 ·rw [decide_eq_true h1, Bool.true_and]
  go_enter Tryz.func59, Tryz.ntmps59
  go_wp2_with fail
  all_goals go_ret
  all_goals exact ⟨rfl, rfl⟩
 ·rw [decide_eq_false h1, Bool.false_and]
  go_enter Tryz.func59, Tryz.ntmps59
  go_wp2_with fail
  go_ret
  exact ⟨rfl, rfl⟩
theorem cmp81 (a b : List UInt8) (w : World) : Calls Tryz.prog 137 #[Sv a, Sv b] w fun e w' => e = .returned (.int .i64 (Lib.compareBytes a b)) ∧ w = w' := by
 have h88 : Calls Tryz.prog 153 #[Sv a, Sv b] w fun e w' => e = .returned (.int .i64 (Lib.compareBytes a b)) ∧ w = w' := by
  go_enter Tryz.func153, Tryz.ntmps153
  go_wp2
  rw [run_callFunc_extern Tryz.func158 (by kernel_rfl) (by kernel_rfl) (by kernel_rfl) (e := Extern.BytealgCompare.compare) (by kernel_rfl), Lib.run_compareString]
  simp only [Result.andThen]
  rw [Oper.upon_value]
  go_wp2
  go_ret
  exact ⟨rfl, rfl⟩
 generalize Lib.compareBytes a b = r at h88 ⊢
 go_enter Tryz.func137, Tryz.ntmps137
 go_wp2_with fail
 refine h88.mono ?_
 rintro e w' ⟨rfl, rfl⟩
 go_wp2
 go_ret
 exact ⟨rfl, rfl⟩
theorem cmp80 (y : La) (to : List UInt8) (w : World) : Calls Tryz.prog 136 #[.agg #[Sv y.k, Uv y.s], Sv to] w fun e w' => e = .returned (.int .i64 (Lib.compareBytes y.k to)) ∧ Kept [] w w' := by
 have h := fun W => cmp81 y.k to W
 generalize Lib.compareBytes y.k to = r at h ⊢
 go_enter Tryz.func136, Tryz.ntmps136
 go_wp2_with fail
 refine (h _).mono ?_
 rintro e w' ⟨rfl, rfl⟩
 go_wp2
 go_ret
 exact ⟨rfl, (Kept.refl [] w).alloc _⟩
theorem rise_lt (h : Rise K) {i j : Nat} {x y : La} (hi : K[i]? = some x) (hj : K[j]? = some y) (hij : i < j) : x.k < y.k := by
 obtain ⟨h1, e1⟩ := List.getElem?_eq_some_iff.1 hi
 obtain ⟨h2, e2⟩ := List.getElem?_eq_some_iff.1 hj
 rw [← e1, ← e2]
 exact List.pairwise_iff_getElem.1 h i j h1 h2 hij
set_option maxHeartbeats 1000000 in
theorem search79 (hB : IsO w p own K qs) (hup : Rise K) (to : List UInt8) : Calls Tryz.prog 135 #[.slice (some ⟨p, 1, none⟩) K.length 64, Sv to, .func (.func 136) #[] #[]] w fun e w' => e = .returned (.tuple #[.int .i64 (pla K to : Int), .bool (hasK K to)]) ∧ Kept [] w w' := by
 have eg : ∀ args w, (callFunc 136 args).run Tryz.prog w = .ok (.enter 136 args) w := enters_of Tryz.func136 (by kernel_rfl) rfl
 have HU := Hid.mk hup
 have HB := Hid.mk hB
 have hn64 := hB.kn
 clear hup hB
 generalize hnn : K.length = n at *
 have HN := Hid.mk hnn
 clear hnn
 obtain ⟨P, hP⟩ : ∃ P, Hid (pla K to = P) := ⟨_, rfl⟩
 obtain ⟨A, hA⟩ : ∃ A, Hid (hasK K to = A) := ⟨_, rfl⟩
 rw [hP.out, hA.out]
 go_enter Tryz.func135, Tryz.ntmps135
 go_wp2_with fail
 go_loopw [9, 10] (fun vi vj wr => ∃ i j : Nat, Hid (Kept [] w wr) ∧ vi = .int .i64 (i : Int) ∧ vj = .int .i64 (j : Int) ∧ i ≤ j ∧ j ≤ n ∧ Hid ((∀ (p : Nat) (x : La), K[p]? = some x → p < i → x.k < to) ∧ ∀ (p : Nat) (x : La), K[p]? = some x → j ≤ p → ¬ x.k < to)) (fun vi vj _ => (intOf vj - intOf vi).toNat)
 case atStart => exact ⟨0, n, Hid.mk (Kept.refl [] w), rfl, rfl, by omega, by omega, Hid.mk ⟨by intros; omega, fun p x hp hj => by have := get_lt hp; have := HN.out; omega⟩⟩
 case round =>
  obtain ⟨i, j, kk, rfl, rfl, hij, hjn, H1⟩ := hrel
  by_cases hlt : i < j
  ·have hh := half_range i j hlt
   obtain ⟨x, hx⟩ : ∃ x, K[(i + j) / 2]? = some x := ⟨_, List.getElem?_eq_getElem (by have := HN.out; omega)⟩
   obtain ⟨c0, c1⟩ := (HB.out.kept0 kk.out).key hx
   have hcc := cmp80 x to wr
   have hcl := cmp_lt x.k to
   generalize Lib.compareBytes x.k to = cv at hcc hcl
   have Hx := Hid.mk hx
   clear hx
   by_cases hneg : cv < 0
   ·have hk : x.k < to := hcl.1 hneg
    clear hcl
    go_wp2_with (go_at_fn 136; refine hcc.mono ?_; rintro e w' ⟨rfl, k1⟩; have HK := Hid.mk (kk.out.trans k1 (by simp)); clear k1)
    go_roundw
    case rel =>
     exact ⟨(i + j) / 2 + 1, j, HK, by rw [show ((i : Int) + (j : Int)) / 2 + 1 = (((i + j) / 2 + 1 : Nat) : Int) by omega], rfl, by omega, hjn, Hid.mk ⟨fun p y hp hlt => by
      rcases Nat.lt_or_ge p ((i + j) / 2) with h | h
      ·exact klt_trans (rise_lt HU.out hp Hx.out h) hk
      ·have : p = (i + j) / 2 := by omega
       subst this
       rw [Hx.out] at hp
       injection hp with hp
       rw [← hp]
       exact hk, H1.out.2⟩⟩
    case measure => simp [intOf]; omega
   ·have hk : ¬ x.k < to := fun h => hneg (hcl.2 h)
    clear hcl
    go_wp2_with (go_at_fn 136; refine hcc.mono ?_; rintro e w' ⟨rfl, k1⟩; have HK := Hid.mk (kk.out.trans k1 (by simp)); clear k1)
    go_roundw
    case rel =>
     exact ⟨i, (i + j) / 2, HK, rfl, by rw [show ((i : Int) + (j : Int)) / 2 = (((i + j) / 2 : Nat) : Int) by omega], by omega, by omega, Hid.mk ⟨H1.out.1, fun p y hp hle => by
      rcases Nat.lt_or_ge ((i + j) / 2) p with h | h
      ·exact fun hy => hk (klt_trans (rise_lt HU.out Hx.out hp h) hy)
      ·have : p = (i + j) / 2 := by omega
       subst this
       rw [Hx.out] at hp
       injection hp with hp
       rw [← hp]
       exact hk⟩⟩
    case measure => simp [intOf]; omega
  ·obtain rfl : j = i := by omega
   have HP : Hid (P = j) := Hid.mk (by rw [← hP.out]; exact pla_is (by have := HN.out; omega) H1.out.1 H1.out.2)
   by_cases hjn2 : j < n
   ·obtain ⟨x, hx⟩ : ∃ x, K[j]? = some x := ⟨_, List.getElem?_eq_getElem (by have := HN.out; omega)⟩
    obtain ⟨c0, c1⟩ := (HB.out.kept0 kk.out).key hx
    have hcc := cmp80 x to wr
    have hce := cmp_eq x.k to
    have hd : Hid (A = decide (x.k = to)) := Hid.mk (by rw [← hA.out]; exact has_is (by rw [hP.out, HP.out]; exact hx))
    generalize Lib.compareBytes x.k to = cv at hcc hce
    clear hx
    by_cases h0 : cv = 0
    ·have h1 : A = true := by rw [hd.out]; simpa using hce.1 h0
     have h2 := HP.out
     subst h0 h1 h2
     clear hce
     go_wp2_with (go_at_fn 136; refine hcc.mono ?_; rintro e w' ⟨rfl, k1⟩)
     go_ret2
     exact ⟨rfl, kk.out.trans k1 (by simp)⟩
    ·have hb : (cv == 0) = false := by simpa using h0
     have h1 : A = false := by rw [hd.out]; simpa using fun h => h0 (hce.2 h)
     have h2 := HP.out
     subst h1 h2
     clear hce
     go_wp2_with (go_at_fn 136; refine hcc.mono ?_; rintro e w' ⟨rfl, k1⟩)
     go_ret2
     exact ⟨rfl, kk.out.trans k1 (by simp)⟩
   ·have h1 : A = false := by rw [← hA.out]; exact has_none (by rw [hP.out, HP.out]; exact List.getElem?_eq_none (by have := HN.out; omega))
    have h2 := HP.out
    subst h1 h2
    go_wp2
    go_ret2
    exact ⟨rfl, kk.out⟩
end
section
variable {w : World} {p : Nat} {own : List UInt8} {K : List La} {qs : List Yq}
set_option maxHeartbeats 1000000 in
theorem find63 (hB : IsO w p own K qs) (hup : Rise K) (to : List UInt8) : Calls Tryz.prog 105 #[.pointer (some ⟨p, 0, none⟩), Sv to] w fun e w' => e = .returned (.tuple #[.int .i64 (pla K to : Int), .bool (hasK K to)]) ∧ Kept [] w w' := by
 have HB := Hid.mk hB
 have hn64 := hB.kn
 have hBd := hB.kept0 (Kept.refl [] w).drew
 have HC := Hid.mk (search79 hBd hup to)
 have S0 := hBd.known
 clear hB hBd
 have HS : Hid (∀ W, Kept [] w.drew W → W.cell? ⟨p, 129, none⟩ = some (.int .i64 (K.length : Int))) := fun W k => k.cell_eq S0
 have g0 : (0 : Int) ≤ (K.length : Int) := by omega
 have g1 : (K.length : Int) ≤ 64 := by omega
 generalize pla K to = P at HC ⊢
 generalize hasK K to = A at HC ⊢
 generalize K.length = n at *
 go_enter Tryz.func105, Tryz.ntmps105
 go_wp2_with fail
 go_region_held3 (fun W => W.cell? ⟨p, 129, none⟩ = some (.int .i64 (n : Int))) (first | exact S0 | exact S1) (first | (go_at_call 135; refine HC.out.mono ?_; rintro e w1 ⟨rfl, k1⟩; have S1 := HS.out _ k1))
 go_wp2_with fail
 go_ret2
 exact ⟨rfl, (Kept.refl [] w).drew.trans k1 (by simp)⟩
set_option maxHeartbeats 1000000 in
theorem serial22 (hB : IsO w p own K qs) (hup : Rise K) (to : List UInt8) : Calls Tryz.prog 49 #[.pointer (some ⟨p, 0, none⟩), Sv to] w fun e w' => e = .returned (Uv (ser K to)) ∧ Kept [] w w' := by
 have HF := Hid.mk (find63 hB hup to)
 cases hh : hasK K to with
 | false =>
  rw [(has_not hh).1]
  rw [hh] at HF
  clear hB hh
  generalize pla K to = P at HF
  go_enter Tryz.func49, Tryz.ntmps49
  go_wp2_with fail
  refine HF.out.mono ?_
  rintro e w1 ⟨rfl, k1⟩
  go_wp2_with fail
  go_ret
  exact ⟨rfl, k1⟩
 | true =>
  obtain ⟨s, h1, h2⟩ := has_at hh
  rw [h2]
  rw [hh] at HF
  have hlt := get_lt h1
  have hn64 := hB.kn
  have HKY : Hid (∀ W, Kept [] w W → W.cell? ⟨p, 1 + pla K to * 2 + 1, none⟩ = some (Uv s)) := fun W k => ((hB.kept0 k).key h1).2
  clear hB hh h1 h2
  generalize pla K to = P at *
  have g0 : (0 : Int) ≤ (P : Int) := by omega
  have g1 : (P : Int) < 64 := by omega
  go_enter Tryz.func49, Tryz.ntmps49
  go_wp2_with fail
  refine HF.out.mono ?_
  rintro e w1 ⟨rfl, k1⟩
  have c1 := HKY.out _ k1
  go_wp2_with fail
  go_ret
  exact ⟨rfl, k1⟩
set_option maxHeartbeats 1000000 in
theorem hasNext58 (hB : IsO w p own K qs) (hup : Rise K) (to : List UInt8) : Calls Tryz.prog 82 #[.pointer (some ⟨p, 0, none⟩), Sv to] w fun e w' => e = .returned (.bool (if hasK K to = true then decide (ser K to < 18446744073709551615) else decide (K.length < 64))) ∧ Kept [] w w' := by
 have HF := Hid.mk (find63 hB hup to)
 cases hh : hasK K to with
 | false =>
  rw [hh] at HF
  have hKn : Hid (∀ W, Kept [] w W → W.cell? ⟨p, 129, none⟩ = some (.int .i64 (K.length : Int))) := fun W k => (hB.kept0 k).known
  have hn64 := hB.kn
  clear hB hh
  have e : (if (false : Bool) = true then decide (ser K to < 18446744073709551615) else decide (K.length < 64)) = decide ((K.length : Int) < 64) := by
   rw [if_neg (by simp)]
   rw [Bool.eq_iff_iff]; simp; omega
  rw [e]
  clear e
  generalize K.length = n at *
  generalize pla K to = P at HF
  go_enter Tryz.func82, Tryz.ntmps82
  go_wp2_with fail
  refine HF.out.mono ?_
  rintro e w1 ⟨rfl, k1⟩
  have c1 := hKn.out _ k1
  go_wp2_with fail
  go_ret
  exact ⟨rfl, k1⟩
 | true =>
  obtain ⟨s, h1, h2⟩ := has_at hh
  have e : (if (true : Bool) = true then decide (ser K to < 18446744073709551615) else decide (K.length < 64)) = decide ((s : Int) < 18446744073709551615) := by
   rw [if_pos rfl, h2]
   rw [Bool.eq_iff_iff]; simp; omega
  rw [e]
  clear e
  rw [hh] at HF
  have hlt := get_lt h1
  have hn64 := hB.kn
  have HKY : Hid (∀ W, Kept [] w W → W.cell? ⟨p, 1 + pla K to * 2 + 1, none⟩ = some (Uv s)) := fun W k => ((hB.kept0 k).key h1).2
  clear hB hh h1 h2
  generalize pla K to = P at *
  have g0 : (0 : Int) ≤ (P : Int) := by omega
  have g1 : (P : Int) < 64 := by omega
  go_enter Tryz.func82, Tryz.ntmps82
  go_wp2_with fail
  refine HF.out.mono ?_
  rintro e w1 ⟨rfl, k1⟩
  have c1 := HKY.out _ k1
  go_wp2_with fail
  go_ret
  exact ⟨rfl, k1⟩
theorem owned34 (hB : IsO w p own K qs) : Calls Tryz.prog 80 #[.pointer (some ⟨p, 0, none⟩)] w fun e w' => e = .returned (.bool (!own.isEmpty)) ∧ w = w' := by
 have c0 := hB.owner
 clear hB
 cases own with
 | nil =>
  go_enter Tryz.func80, Tryz.ntmps80
  go_wp2_with fail
  go_ret
  exact ⟨rfl, rfl⟩
 | cons u t =>
  go_enter Tryz.func80, Tryz.ntmps80
  go_wp2_with fail
  go_ret
  exact ⟨rfl, rfl⟩
theorem owner24 (hB : IsO w p own K qs) (hl : own.length ≤ 281474976710656) : Calls Tryz.prog 102 #[.pointer (some ⟨p, 0, none⟩)] w fun e w' => e = .returned (Sv own) ∧ Kept [] w w' := by
 have c0 := hB.owner
 clear hB
 go_enter Tryz.func102, Tryz.ntmps102
 go_wp2_with fail
 refine (clone32 own hl).mono ?_
 rintro e w1 ⟨rfl, k1⟩
 go_wp2_with fail
 go_ret
 exact ⟨rfl, k1⟩
end
section
variable {w : World} {b : Nat} {t : TypeId} {v0 v1 v2 v3 v4 : Value}
theorem cells5 (h : w.heap[b]? = some (.cells #[v0, v1, v2, v3, v4] t (0, 0))) : w.cell? ⟨b, 0, none⟩ = some v0 ∧ w.cell? ⟨b, 1, none⟩ = some v1 ∧ w.cell? ⟨b, 2, none⟩ = some v2 ∧ w.cell? ⟨b, 3, none⟩ = some v3 ∧ w.cell? ⟨b, 4, none⟩ = some v4 := by simp [World.cell?, h]
theorem free5 (h : w.heap[b]? = some (.cells #[v0, v1, v2, v3, v4] t (0, 0))) : w.frozen? ⟨b, 0, none⟩ = false ∧ w.frozen? ⟨b, 1, none⟩ = false ∧ w.frozen? ⟨b, 2, none⟩ = false ∧ w.frozen? ⟨b, 3, none⟩ = false ∧ w.frozen? ⟨b, 4, none⟩ = false := by simp [World.frozen?, h]
theorem put5 (h : w.heap[b]? = some (.cells #[v0, v1, v2, v3, v4] t (0, 0))) (x0 x1 x2 x3 x4 : Value) : ∃ W, ((((w.setCell ⟨b, 0, none⟩ x0).setCell ⟨b, 1, none⟩ x1).setCell ⟨b, 2, none⟩ x2).setCell ⟨b, 3, none⟩ x3).setCell ⟨b, 4, none⟩ x4 = W ∧ Kept [b] w W ∧ W.heap[b]? = some (.cells #[x0, x1, x2, x3, x4] t (0, 0)) ∧ W.heap.size = w.heap.size :=
 ⟨_, rfl, (((((Kept.refl [b] w).setCell (p := ⟨b, 0, none⟩) (.inl (by simp)) x0).setCell (p := ⟨b, 1, none⟩) (.inl (by simp)) x1).setCell (p := ⟨b, 2, none⟩) (.inl (by simp)) x2).setCell (p := ⟨b, 3, none⟩) (.inl (by simp)) x3).setCell (p := ⟨b, 4, none⟩) (.inl (by simp)) x4, set_at (set_at (set_at (set_at (set_at h)))), by simp⟩
end
theorem put5_other (w : World) (p : Nat) (v0 v1 v2 v3 v4 : Value) {a : Addr} (h : a.block ≠ p) : (((((w.setCell ⟨p, 0, none⟩ v0).setCell ⟨p, 1, none⟩ v1).setCell ⟨p, 2, none⟩ v2).setCell ⟨p, 3, none⟩ v3).setCell ⟨p, 4, none⟩ v4).cell? a = w.cell? a := by
 rw [World.cell?_setCell_other, World.cell?_setCell_other, World.cell?_setCell_other, World.cell?_setCell_other, World.cell?_setCell_other]
 all_goals (intro e; subst e; exact h rfl)
theorem putY {w : World} {p o : Nat} {L : List Value} {t : TypeId} (h : w.heap[p]? = some (.cells L.toArray t (0, 0))) (x0 x1 x2 x3 x4 : Value) : ∃ W, ((((w.setCell ⟨p, o, none⟩ x0).setCell ⟨p, o + 1, none⟩ x1).setCell ⟨p, o + 2, none⟩ x2).setCell ⟨p, o + 3, none⟩ x3).setCell ⟨p, o + 4, none⟩ x4 = W ∧ Kept [p] w W ∧ W.heap[p]? = some (.cells (((((L.set o x0).set (o + 1) x1).set (o + 2) x2).set (o + 3) x3).set (o + 4) x4).toArray t (0, 0)) ∧ W.heap.size = w.heap.size :=
 ⟨_, rfl, (((((Kept.refl [p] w).setCell (p := ⟨p, o, none⟩) (.inl (by simp)) x0).setCell (p := ⟨p, o + 1, none⟩) (.inl (by simp)) x1).setCell (p := ⟨p, o + 2, none⟩) (.inl (by simp)) x2).setCell (p := ⟨p, o + 3, none⟩) (.inl (by simp)) x3).setCell (p := ⟨p, o + 4, none⟩) (.inl (by simp)) x4, set_list (set_list (set_list (set_list (set_list h)))), by simp⟩
theorem set5_ne (L : List Value) (o i : Nat) (x0 x1 x2 x3 x4 : Value) (h : i < o ∨ o + 5 ≤ i) : (((((L.set o x0).set (o + 1) x1).set (o + 2) x2).set (o + 3) x3).set (o + 4) x4)[i]? = L[i]? := by
 rw [List.getElem?_set_ne (by omega), List.getElem?_set_ne (by omega), List.getElem?_set_ne (by omega), List.getElem?_set_ne (by omega), List.getElem?_set_ne (by omega)]
theorem set5_at (L : List Value) (o : Nat) (x0 x1 x2 x3 x4 : Value) (h : o + 5 ≤ L.length) (i : Nat) (v : Value) (hi : [x0, x1, x2, x3, x4][i]? = some v) : (((((L.set o x0).set (o + 1) x1).set (o + 2) x2).set (o + 3) x3).set (o + 4) x4)[o + i]? = some v := by
 match i, hi with
 | 0, hi => rw [List.getElem?_set_ne (by omega), List.getElem?_set_ne (by omega), List.getElem?_set_ne (by omega), List.getElem?_set_ne (by omega), Nat.add_zero, List.getElem?_set_self (by omega)]; exact hi
 | 1, hi => rw [List.getElem?_set_ne (by omega), List.getElem?_set_ne (by omega), List.getElem?_set_ne (by omega), List.getElem?_set_self (by simp; omega)]; exact hi
 | 2, hi => rw [List.getElem?_set_ne (by omega), List.getElem?_set_ne (by omega), List.getElem?_set_self (by simp; omega)]; exact hi
 | 3, hi => rw [List.getElem?_set_ne (by omega), List.getElem?_set_self (by simp; omega)]; exact hi
 | 4, hi => rw [List.getElem?_set_self (by simp; omega)]; exact hi
 | n + 5, hi => simp at hi
theorem CellsO.push {cs : List Value} {own : List UInt8} {K : List La} {qs : List Yq} (h : CellsO cs own K qs) (hK : K.length ≤ 64) (hq : qs.length < 32) (y : Yq) :
  CellsO ((((((cs.set (130 + qs.length * 5) (Sv y.to)).set (130 + qs.length * 5 + 1) (Sv y.q.x.fr)).set (130 + qs.length * 5 + 2) (.int .u64 (y.q.x.ser : Int))).set (130 + qs.length * 5 + 3) (.int .i64 y.q.x.kind)).set (130 + qs.length * 5 + 4) y.q.sl).set 290 (.int .i64 ((qs.length + 1 : Nat) : Int))) own K (qs ++ [y]) := by
 have hl := h.len
 refine ⟨by simp only [List.length_set]; exact hl, ?_, fun i z hz m v hv => ?_, ?_, fun i z hz m v hv => ?_, ?_, set_one (set_one (set_one (set_one (set_one (set_one h.one rfl) rfl) rfl) rfl) rfl) rfl⟩
 ·rw [List.getElem?_set_ne (by omega), set5_ne _ _ _ _ _ _ _ _ (by omega)]; exact h.own
 ·have := get_lt hz
  have := cellsK_lt hv
  rw [List.getElem?_set_ne (by omega), set5_ne _ _ _ _ _ _ _ _ (by omega)]; exact h.ks i z hz m v hv
 ·rw [List.getElem?_set_ne (by omega), set5_ne _ _ _ _ _ _ _ _ (by omega)]; exact h.kn
 ·have hi := get_lt hz
  have hm := cellsY_lt hv
  rw [List.length_append, List.length_singleton] at hi
  rw [List.getElem?_set_ne (by omega)]
  by_cases hlt : i < qs.length
  ·rw [List.getElem?_append_left hlt] at hz
   rw [set5_ne _ _ _ _ _ _ _ _ (by omega)]
   exact h.ys i z hz m v hv
  ·have : i = qs.length := by omega
   subst this
   simp at hz
   subst hz
   exact set5_at _ _ _ _ _ _ _ (by omega) m v hv
 ·rw [List.getElem?_set_self (by simp only [List.length_set]; omega), List.length_append]; rfl
section
variable {w : World} {p : Nat} {own : List UInt8} {K : List La} {qs : List Yq}
theorem IsO.new (own : List UInt8) (w : World) : IsO (w.alloc (.cells (zeroO own).toArray 168)) w.heap.size own [] [] :=
 ⟨⟨_, heap_alloc_new w _, cellsO_new own⟩, by simp, by simp, by simp⟩
end
section
variable {w : World} {p : Nat} {own : List UInt8} {K : List La} {qs : List Yq}
set_option maxHeartbeats 400000 in
theorem copyOut62 (to : List UInt8) (x : Lt) (a : Option Addr) (c : Nat) (hx : ReadsJ w (.slice a x.args.length c) x.args) (ht : to.length ≤ 100000) (hs : x.fr.length ≤ 100000) (hl : x.args.length ≤ 100000) :
  Calls Tryz.prog 104 #[Yv to x a c] w fun e w' => ∃ a' c', e = .returned (Yv to x a' c') ∧ OwnsJ w' (.slice a' x.args.length c') x.args ∧ Kept [] w w' ∧ Fresh w (.slice a' x.args.length c') := by
 have HX := Hid.mk hx
 have HC1 : Hid (∀ W, Calls Tryz.prog 83 #[Sv to] W fun e w' => e = .returned (Sv to) ∧ Kept [] W w') := fun W => clone32 to (by omega)
 have HC2 : Hid (∀ W, Kept [] w W → Calls Tryz.prog 75 #[Lv x a c] W fun e w' => ∃ a' c', e = .returned (Lv x a' c') ∧ OwnsJ w' (.slice a' x.args.length c') x.args ∧ Kept [] W w' ∧ Fresh W (.slice a' x.args.length c')) := fun W k => copy17 x a c (HX.out.kept k (by simp)) hs hl
 clear hx ht hs hl
 go_enter Tryz.func104, Tryz.ntmps104
 go_wp2_with fail
 obtain ⟨W0, e0, k0, hz0, hb0, hb1⟩ := box2 w (.cells #[Sv to, Sv x.fr, .int .u64 (x.ser : Int), .int .i64 x.kind, .slice a x.args.length c] 130) (.cells #[.string { data := #[] }, .string { data := #[] }, .int .u64 0, .int .i64 0, .slice none 0 0] 130)
 rw [e0]
 clear e0
 have kd : Kept [] w W0.drew := k0.drew
 have HS : Hid (∀ W, Kept [] W0.drew W → W.cell? ⟨w.heap.size, 0, none⟩ = some (Sv to) ∧ W.cell? ⟨w.heap.size, 1, none⟩ = some (Sv x.fr) ∧ W.cell? ⟨w.heap.size, 2, none⟩ = some (.int .u64 (x.ser : Int)) ∧ W.cell? ⟨w.heap.size, 3, none⟩ = some (.int .i64 x.kind) ∧ W.cell? ⟨w.heap.size, 4, none⟩ = some (.slice a x.args.length c)) := fun W k => cells5 (k.keeps (w := W0.drew) hb0 (by simp))
 have HR : Hid (∀ W, Kept [] W0.drew W → (W.cell? ⟨w.heap.size + 1, 0, none⟩ = some (.string { data := #[] }) ∧ W.cell? ⟨w.heap.size + 1, 1, none⟩ = some (.string { data := #[] }) ∧ W.cell? ⟨w.heap.size + 1, 2, none⟩ = some (.int .u64 0) ∧ W.cell? ⟨w.heap.size + 1, 3, none⟩ = some (.int .i64 0) ∧ W.cell? ⟨w.heap.size + 1, 4, none⟩ = some (.slice none 0 0)) ∧ (W.frozen? ⟨w.heap.size + 1, 0, none⟩ = false ∧ W.frozen? ⟨w.heap.size + 1, 1, none⟩ = false ∧ W.frozen? ⟨w.heap.size + 1, 2, none⟩ = false ∧ W.frozen? ⟨w.heap.size + 1, 3, none⟩ = false ∧ W.frozen? ⟨w.heap.size + 1, 4, none⟩ = false)) := fun W k => ⟨cells5 (k.keeps (w := W0.drew) hb1 (by simp)), free5 (k.keeps (w := W0.drew) hb1 (by simp))⟩
 have HB1 : Hid (∀ W, Kept [] W0.drew W → W.heap[w.heap.size + 1]? = some (.cells #[.string { data := #[] }, .string { data := #[] }, .int .u64 0, .int .i64 0, .slice none 0 0] 130 (0, 0))) := fun W k => k.keeps (w := W0.drew) hb1 (by simp)
 have HP : Hid (∀ W a2 c2 V, Kept [] W0.drew W → V = ((((W.setCell ⟨w.heap.size + 1, 0, none⟩ (Sv to)).setCell ⟨w.heap.size + 1, 1, none⟩ (Sv x.fr)).setCell ⟨w.heap.size + 1, 2, none⟩ (.int .u64 (x.ser : Int))).setCell ⟨w.heap.size + 1, 3, none⟩ (.int .i64 x.kind)).setCell ⟨w.heap.size + 1, 4, none⟩ (.slice a2 x.args.length c2) → V.cell? ⟨w.heap.size, 0, none⟩ = some (Sv to) ∧ V.cell? ⟨w.heap.size, 1, none⟩ = some (Sv x.fr) ∧ V.cell? ⟨w.heap.size, 2, none⟩ = some (.int .u64 (x.ser : Int)) ∧ V.cell? ⟨w.heap.size, 3, none⟩ = some (.int .i64 x.kind) ∧ V.cell? ⟨w.heap.size, 4, none⟩ = some (.slice a x.args.length c)) := fun W a2 c2 V k e => by
  have := HS.out W k
  rw [e, put5_other _ _ _ _ _ _ _ (by simp), put5_other _ _ _ _ _ _ _ (by simp), put5_other _ _ _ _ _ _ _ (by simp), put5_other _ _ _ _ _ _ _ (by simp), put5_other _ _ _ _ _ _ _ (by simp)]
  exact this
 have S0 := HS.out _ (Kept.refl [] _)
 have HKD := Hid.mk kd
 clear hb0 hb1 k0 hz0 kd
 go_region_held3 (fun W => W.cell? ⟨w.heap.size, 0, none⟩ = some (Sv to) ∧ W.cell? ⟨w.heap.size, 1, none⟩ = some (Sv x.fr) ∧ W.cell? ⟨w.heap.size, 2, none⟩ = some (.int .u64 (x.ser : Int)) ∧ W.cell? ⟨w.heap.size, 3, none⟩ = some (.int .i64 x.kind) ∧ W.cell? ⟨w.heap.size, 4, none⟩ = some (.slice a x.args.length c)) (first | with_reducible exact S0 | with_reducible exact S1 | with_reducible exact S2 | exact HP.out _ _ _ _ kk2 rfl) (first | (go_at_call 75; refine (HC2.out _ (HKD.out.trans kk1 (by simp))).mono ?_; rintro e w2 ⟨a2, c2, rfl, hO2, k2, hf2⟩; have kk2 := kk1.trans k2 (by simp); have S2 := HS.out _ kk2; obtain ⟨⟨j0, j1, j2, j3, j4⟩, f0, f1, f2, f3, f4⟩ := HR.out _ kk2) | (go_at_call 83; refine (HC1.out _).mono ?_; rintro e w1 ⟨rfl, k1⟩; have kk1 := k1; have S1 := HS.out _ kk1))
 obtain ⟨W5, e5, k5, h5, -⟩ := put5 (HB1.out _ kk2) (Sv to) (Sv x.fr) (.int .u64 (x.ser : Int)) (.int .i64 x.kind) (.slice a2 x.args.length c2)
 rw [e5]
 go_wp2_with fail
 refine bodyPost_ret (results_cell_row (p := 2) (ty := 130) rfl _ _ (w.heap.size + 1) 130 _ (0, 0) _ rfl h5 Tryz.underlying130 rfl (by kernel_rfl)) rfl ?_
 have kw2 := HKD.out.trans kk2 (by simp)
 refine ⟨a2, c2, rfl, hO2.kept k5 (fun g hg hm => ?_), kw2.trans k5 (by simp), fun g hg => ?_⟩
 ·simp at hm
  subst hm
  exact ownsJ_ne hO2 (HB1.out _ kk2) (by decide) hg
 ·have := hf2 g hg
  have := (HKD.out.trans kk1 (by simp)).size
  omega
end
section
variable {w : World} {p : Nat} {own : List UInt8} {K : List La} {qs : List Yq}
theorem zeroC63 (own : List UInt8) : Tryz.zeroCells168.setIfInBounds 0 (Sv own) = (zeroO own).toArray := by kernel_rfl
set_option maxHeartbeats 1000000 in
theorem new11_no (own : List UInt8) (h : isKey own = false) (hl : own.length ≤ 281474976710656) : Calls Tryz.prog 56 #[Sv own] w fun e w' => e = .returned (.tuple #[.pointer none, .int .i64 1]) ∧ w = w' := by
 have HK := Hid.mk (isKey26 (w := w) own hl)
 rw [h] at HK
 go_enter Tryz.func56, Tryz.ntmps56
 go_wp2_with fail
 refine HK.out.mono ?_
 rintro e w1 ⟨rfl, rfl⟩
 go_wp2_with fail
 go_ret2
 exact ⟨rfl, rfl⟩
set_option maxHeartbeats 1000000 in
theorem push60 (y : Yq) (hB : IsO w p own K qs) (hn : qs.length < 32) (hy : OwnsJ w y.q.sl y.q.x.args) : Calls Tryz.prog 85 #[.pointer (some ⟨p, 0, none⟩), Yv y.to y.q.x y.q.ad y.q.cap] w fun e w' => e = .returned (.tuple #[]) ∧ IsO w' p own K (qs ++ [y]) ∧ Kept [p] w w' := by
 have HB := Hid.mk hB
 have HY := Hid.mk hy
 have hpl := hB.lt
 clear hB hy
 go_enter Tryz.func85, Tryz.ntmps85
 go_wp2_with fail
 obtain ⟨W0, e0, k0, hz0, hb0⟩ := box1 w (.cells #[Sv y.to, Sv y.q.x.fr, .int .u64 (y.q.x.ser : Int), .int .i64 y.q.x.kind, .slice y.q.ad y.q.x.args.length y.q.cap] 130)
 rw [e0]
 clear e0
 have hB0 := HB.out.kept0 k0
 have kd := k0.drew
 have hBd : IsO W0.drew p own K qs := HB.out.kept0 kd
 obtain ⟨b0, b1, b2, b3, b4⟩ := cells5 (w := W0.drew) hb0
 have c0 := hBd.count
 have g0 : (0 : Int) ≤ (qs.length : Int) := by omega
 have g1 : (qs.length : Int) < 32 := by omega
 obtain ⟨d0, hd0⟩ := hB0.any (i := 130 + qs.length * 5) (by omega)
 obtain ⟨d1, hd1⟩ := hB0.any (i := 130 + qs.length * 5 + 1) (by omega)
 obtain ⟨d2, hd2⟩ := hB0.any (i := 130 + qs.length * 5 + 2) (by omega)
 obtain ⟨d3, hd3⟩ := hB0.any (i := 130 + qs.length * 5 + 3) (by omega)
 obtain ⟨d4, hd4⟩ := hB0.any (i := 130 + qs.length * 5 + 4) (by omega)
 have f0 := hB0.free (130 + qs.length * 5)
 have f1 := hB0.free (130 + qs.length * 5 + 1)
 have f2 := hB0.free (130 + qs.length * 5 + 2)
 have f3 := hB0.free (130 + qs.length * 5 + 3)
 have f4 := hB0.free (130 + qs.length * 5 + 4)
 have e0 : W0.drew.cell? ⟨p, 130 + qs.length * 5, none⟩ = some d0 := hd0
 have e1 : W0.drew.cell? ⟨p, 130 + qs.length * 5 + 1, none⟩ = some d1 := hd1
 have e2 : W0.drew.cell? ⟨p, 130 + qs.length * 5 + 2, none⟩ = some d2 := hd2
 have e3 : W0.drew.cell? ⟨p, 130 + qs.length * 5 + 3, none⟩ = some d3 := hd3
 have e4 : W0.drew.cell? ⟨p, 130 + qs.length * 5 + 4, none⟩ = some d4 := hd4
 have i0 : W0.drew.frozen? ⟨p, 130 + qs.length * 5, none⟩ = false := f0
 have i1 : W0.drew.frozen? ⟨p, 130 + qs.length * 5 + 1, none⟩ = false := f1
 have i2 : W0.drew.frozen? ⟨p, 130 + qs.length * 5 + 2, none⟩ = false := f2
 have i3 : W0.drew.frozen? ⟨p, 130 + qs.length * 5 + 3, none⟩ = false := f3
 have i4 : W0.drew.frozen? ⟨p, 130 + qs.length * 5 + 4, none⟩ = false := f4
 obtain ⟨cs, hbx, hcs⟩ := hB0.box
 obtain ⟨W5, e5, k5, h5, hz5⟩ := putY (o := 130 + qs.length * 5) hbx (Sv y.to) (Sv y.q.x.fr) (.int .u64 (y.q.x.ser : Int)) (.int .i64 y.q.x.kind) (.slice y.q.ad y.q.x.args.length y.q.cap)
 have HE5 := Hid.mk e5
 have hK := hB0.kn
 have hP := hcs.push hK hn y
 have h6 := set_list (k := 290) (x := .int .i64 ((qs.length + 1 : Nat) : Int)) h5
 have q5 : W5.cell? ⟨p, 290, none⟩ = some (.int .i64 (qs.length : Int)) := by
  refine IsO.cell h5 ?_
  rw [set5_ne _ _ _ _ _ _ _ _ (by omega)]
  exact hcs.yn
 have u5 : W5.frozen? ⟨p, 290, none⟩ = false := by simp [World.frozen?, h5]
 have k6 := k5.setCell (p := ⟨p, 290, none⟩) (.inl (by simp)) (.int .i64 ((qs.length + 1 : Nat) : Int))
 have HR : Hid (IsO (W5.setCell ⟨p, 290, none⟩ (.int .i64 ((qs.length + 1 : Nat) : Int))).drew p own K (qs ++ [y]) ∧ Kept [p] w (W5.setCell ⟨p, 290, none⟩ (.int .i64 ((qs.length + 1 : Nat) : Int))).drew) := by
  refine ⟨⟨⟨_, h6, hP⟩, hK, by simp; omega, fun z hz => ?_⟩, ((k0.mono (by simp)).trans k6 (by simp)).drew⟩
  have : OwnsJ W0 z.q.sl z.q.x.args := by
   rcases List.mem_append.1 hz with h | h
   ·exact hB0.args z h
   ·simp at h; subst h; exact HY.out.kept k0 (by simp)
  exact this.kept k6.drew (fun g hg hm => by simp at hm; subst hm; exact ownsJ_ne this hbx (by decide) hg)
 have HQ : Hid (∀ V, V = ((((W0.setCell ⟨p, 130 + qs.length * 5, none⟩ (Sv y.to)).setCell ⟨p, 130 + qs.length * 5 + 1, none⟩ (Sv y.q.x.fr)).setCell ⟨p, 130 + qs.length * 5 + 2, none⟩ (.int .u64 (y.q.x.ser : Int))).setCell ⟨p, 130 + qs.length * 5 + 3, none⟩ (.int .i64 y.q.x.kind)).setCell ⟨p, 130 + qs.length * 5 + 4, none⟩ (.slice y.q.ad y.q.x.args.length y.q.cap) → V.drew.cell? ⟨p, 290, none⟩ = some (.int .i64 (qs.length : Int)) ∧ V.drew.cell? ⟨w.heap.size, 0, none⟩ = some (Sv y.to) ∧ V.drew.cell? ⟨w.heap.size, 1, none⟩ = some (Sv y.q.x.fr) ∧ V.drew.cell? ⟨w.heap.size, 2, none⟩ = some (.int .u64 (y.q.x.ser : Int)) ∧ V.drew.cell? ⟨w.heap.size, 3, none⟩ = some (.int .i64 y.q.x.kind) ∧ V.drew.cell? ⟨w.heap.size, 4, none⟩ = some (.slice y.q.ad y.q.x.args.length y.q.cap)) := fun V hV => by
  rw [HE5.out] at hV
  subst hV
  exact ⟨q5, cells5 (k5.keeps hb0 (by simp; omega))⟩
 clear hbx hcs h5 hP h6 k6 hK e5 hB0 hb0 kd hBd
 go_region_held3 (fun W => W.cell? ⟨p, 290, none⟩ = some (.int .i64 (qs.length : Int)) ∧ W.cell? ⟨w.heap.size, 0, none⟩ = some (Sv y.to) ∧ W.cell? ⟨w.heap.size, 1, none⟩ = some (Sv y.q.x.fr) ∧ W.cell? ⟨w.heap.size, 2, none⟩ = some (.int .u64 (y.q.x.ser : Int)) ∧ W.cell? ⟨w.heap.size, 3, none⟩ = some (.int .i64 y.q.x.kind) ∧ W.cell? ⟨w.heap.size, 4, none⟩ = some (.slice y.q.ad y.q.x.args.length y.q.cap)) (first | with_reducible exact ⟨c0, b0, b1, b2, b3, b4⟩ | exact HQ.out _ rfl) (fail)
 rw [HE5.out]
 clear e0 e1 e2 e3 e4 i0 i1 i2 i3 i4 hd0 hd1 hd2 hd3 hd4 f0 f1 f2 f3 f4 b0 b1 b2 b3 b4 c0 HQ HE5
 go_wp2_with fail
 go_end0
 exact ⟨rfl, HR.out⟩
set_option maxHeartbeats 1000000 in
theorem new11 (own : List UInt8) (h : isKey own = true) : Calls Tryz.prog 56 #[Sv own] w fun e w' => ∃ p, e = .returned (.tuple #[.pointer (some ⟨p, 0, none⟩), .int .i64 0]) ∧ IsO w' p own [] [] ∧ Kept [] w w' ∧ w.heap.size ≤ p := by
 have hl := (isKey_iff own).1 h
 have HK := Hid.mk (isKey26 (w := w) own (by omega))
 rw [h] at HK
 have HN : Hid (∀ W : World, IsO (W.alloc (.cells (zeroO own).toArray 168)) W.heap.size own [] []) := fun W => IsO.new own W
 have HC := Hid.mk (clone32 (w := w) own (by omega))
 clear h hl
 go_enter Tryz.func56, Tryz.ntmps56
 go_wp2_with fail
 refine HK.out.mono ?_
 rintro e w1 ⟨rfl, rfl⟩
 go_wp2_with fail
 refine HC.out.mono ?_
 rintro e w1 ⟨rfl, k1⟩
 go_wp2_with fail
 rw [zeroC63]
 go_ret2
 exact ⟨_, rfl, HN.out w1, k1.alloc _, k1.size⟩
end
end Go.Proofs.YtngnenbidpojeaaGreatDoor
