import Derived.Test.YtngnenbidpojeaaGreatDoorT05
import Derived.Test.YtngnenbidpojeaaGreatDoorT07
import Derived.Test.YtngnenbidpojeaaGreatDoorT13
import Derived.Test.YtngnenbidpojeaaGreatDoorT16
import Derived.Test.YtngnenbidpojeaaGreatDoorT20
import Derived.Test.YtngnenbidpojeaaGreatDoorT22
import Derived.Test.YtngnenbidpojeaaGreatDoorT24
import Derived.Test.YtngnenbidpojeaaGreatDoorT25
import Derived.Test.YtngnenbidpojeaaGreatDoorT26
import Derived.Test.YtngnenbidpojeaaGreatDoorT31
/-
 The document's Formed.
-/
namespace Go.Proofs.YtngnenbidpojeaaGreatDoor
open Go.RowKit
set_option maxRecDepth 100000
set_option linter.unusedVariables false
def most6 (nn nc : Nat) : Array Value := #[.int .i64 0, .int .i64 9223372036854775807, .int .i64 7, .int .i64 3, .int .i64 (nc : Int), .int .i64 ((nn : Int) - 1)]
theorem most6_at {W : World} {g nn nc : Nat} {t : TypeId} (h : W.heap[g]? = some (.cells (most6 nn nc) t (0, 0))) {k : Nat} (hk : k ≤ 5) : ∃ M : Int, W.cell? ⟨g, k, none⟩ = some (.int .i64 M) ∧ (k ≠ 1 → M = mostI nn nc k) := by
 match k, hk with
 | 0, _ => exact ⟨0, by simp [World.cell?, h, most6], fun _ => rfl⟩
 | 1, _ => exact ⟨9223372036854775807, by simp [World.cell?, h, most6], fun h => absurd rfl h⟩
 | 2, _ => exact ⟨7, by simp [World.cell?, h, most6], fun _ => rfl⟩
 | 3, _ => exact ⟨3, by simp [World.cell?, h, most6], fun _ => rfl⟩
 | 4, _ => exact ⟨nc, by simp [World.cell?, h, most6], fun _ => rfl⟩
 | 5, _ => exact ⟨(nn : Int) - 1, by simp [World.cell?, h, most6], fun _ => rfl⟩
theorem words_len : ∀ x ∈ words, x.1.length ≤ 10 ∧ x.2 ≤ 5 := by decide
theorem words_some : ∀ x ∈ words, x.1 ≠ [] := by decide
section
variable {w : World}
set_option maxHeartbeats 4000000 in
theorem formed14_N {v u : Value} {p : Pg} (hP : IsP_N w v u p) (hK : ∀ s ∈ p.names, s.length ≤ 9223372036854775807) :
  Calls Tryz.prog 19 #[.agg #[v, u]] w fun e w' => e = .returned (.bool (formedP p)) ∧ Kept [] w w' := by
 obtain ⟨a, c, b, d, rfl, rfl, hl1, hl2⟩ := hP.form
 have HP := Hid.mk hP
 obtain ⟨W0, e0, k0, hz0, hb0⟩ := box1 w (.cells #[.slice a p.names.length c, .slice b p.code.length d] 25)
 obtain ⟨y0, y1⟩ := cells2_N hb0
 have HB0 := Hid.mk hb0
 have HK0 := Hid.mk k0
 clear k0 hb0 hz0 hP
 obtain ⟨R, HR⟩ : ∃ R, Hid (formedP p = R) := ⟨_, rfl⟩
 rw [HR.out]
 by_cases hA : 8 < p.names.length
 ·obtain rfl : R = false := by rw [← HR.out]; exact formed_wrong (.inl hA)
  have hA' : (8 : Int) < (p.names.length : Int) := by omega
  clear HR
  go_enter Tryz.func19, Tryz.ntmps19
  go_wp2_with fail
  go_ret
  exact ⟨rfl, HK0.out⟩
 have hA' : ¬ (8 : Int) < (p.names.length : Int) := by omega
 by_cases hB : 200 < p.code.length
 ·obtain rfl : R = false := by rw [← HR.out]; exact formed_wrong (.inr hB)
  have hB' : (200 : Int) < (p.code.length : Int) := by omega
  clear HR
  go_enter Tryz.func19, Tryz.ntmps19
  go_wp2_with fail
  go_ret
  exact ⟨rfl, HK0.out⟩
 have hB' : ¬ (200 : Int) < (p.code.length : Int) := by omega
 go_enter Tryz.func19, Tryz.ntmps19
 go_wp2_with fail
 generalize hg : w.heap.size = g at *
 clear hg
 go_loopw [21] (fun i wr => ∃ j : Nat, Hid (Kept [] W0 wr) ∧ i = .int .i64 (j : Int) ∧ j ≤ p.names.length ∧ Hid (∀ i (hi : i < p.names.length), i < j → isKey p.names[i] = true)) (fun i _ => p.names.length - (intOf i).toNat)
 case atStart => exact ⟨0, Hid.mk (Kept.refl [] W0), rfl, by omega, Hid.mk (fun _ _ h => by omega)⟩
 case round =>
  obtain ⟨j, HW, rfl, hj, HJ⟩ := hrel
  have HKW := Hid.mk (HK0.out.then HW.out)
  obtain ⟨x0, x1⟩ := cells2_N (HW.out.keeps HB0.out (by simp))
  by_cases hlt : j < p.names.length
  ·obtain ⟨b1, o1, rfl, hc1⟩ := names_at (HP.out.names.keep HKW.out) hlt
   have hjI : (j : Int) < (p.names.length : Int) := by omega
   have hj0 : (0 : Int) ≤ (j : Int) := by omega
   have HC := Hid.mk (key32 (w := wr) p.names[j] (hK _ (List.getElem_mem hlt)))
   have HY := Hid.mk (fun h => formed_name (p := p) hlt h)
   have HT : Hid (isKey p.names[j] = true → ∀ i (hi : i < p.names.length), i < j + 1 → isKey p.names[i] = true) := fun h i hi hij => by
    by_cases e : i = j
    ·subst e; exact h
    ·exact HJ.out i hi (by omega)
   cases hk : isKey p.names[j] with
   | false =>
    rw [hk] at HC
    obtain rfl : R = false := by rw [← HR.out]; exact HY.out hk
    clear HR HJ HT hk
    generalize (⟨p.names[j].toArray⟩ : ByteArray) = q at *
    go_wp2_with fail
    refine HC.out.mono ?_
    rintro e w1 ⟨rfl, rfl⟩
    go_wp2_with fail
    go_ret
    exact ⟨rfl, HKW.out⟩
   | true =>
    rw [hk] at HC
    have HT' := Hid.mk (HT.out hk)
    clear HJ HT hk
    generalize (⟨p.names[j].toArray⟩ : ByteArray) = q at *
    go_wp2_with fail
    refine HC.out.mono ?_
    rintro e w1 ⟨rfl, rfl⟩
    go_wp2_with fail
    go_roundw
    case rel => exact ⟨j + 1, HW, by go_num, by omega, HT'⟩
    case measure => simp [intOf]; omega
  ·have hje : ¬ (j : Int) < (p.names.length : Int) := by omega
   have HJ' : Hid (∀ i (hi : i < p.names.length), isKey p.names[i] = true) := fun i hi => HJ.out i hi (by omega)
   clear HJ
   go_wp2_with fail
   go_loopw [35] (fun i wr => ∃ j : Nat, Hid (Kept [] W0 wr) ∧ i = .int .i64 (j : Int) ∧ j ≤ p.code.length ∧ Hid (∀ i (hi : i < p.code.length), i < j → okI p.names.length p.code.length p.code[i] = true)) (fun i _ => p.code.length - (intOf i).toNat)
   case atStart => exact ⟨0, HW, rfl, by omega, Hid.mk (fun _ _ h => by omega)⟩
   case round =>
    clear HW HKW x0 x1
    obtain ⟨l, HW, rfl, hl, HL⟩ := hrel
    have HKW := Hid.mk (HK0.out.then HW.out)
    have hbr := HW.out.keeps HB0.out (by simp)
    obtain ⟨x0, x1⟩ := cells2_N hbr
    by_cases hlt2 : l < p.code.length
    ·obtain ⟨b1, o1, rfl, hc1, hc2⟩ := code_at (HP.out.code.keep HKW.out) hlt2
     have hjI : (l : Int) < (p.code.length : Int) := by omega
     have hj0 : (0 : Int) ≤ (l : Int) := by omega
     have HY := Hid.mk (fun h => formed_code (p := p) hlt2 h)
     have HT : Hid (okI p.names.length p.code.length p.code[l] = true → ∀ i (hi : i < p.code.length), i < l + 1 → okI p.names.length p.code.length p.code[i] = true) := fun h i hi hij => by
      by_cases e : i = l
      ·subst e; exact h
      ·exact HL.out i hi (by omega)
     obtain ⟨W3, e3, k3, hz3, hb3⟩ := box1 wr (.cells (most6 p.names.length p.code.length) 2)
     have HM := Hid.mk (fun (k : Nat) (h : k ≤ 5) => most6_at hb3 h)
     unfold most6 at e3
     have HK3 := Hid.mk (HW.out.then k3)
     have z0 := k3.cell_eq x0
     have z1 := k3.cell_eq x1
     have z3 := k3.cell_eq hc2
     have wr1 : IntKind.i64.wrap ((p.names.length : Int) - 1) = (p.names.length : Int) - 1 := by rw [IntKind.wrap_i64]; omega
     clear HL hbr hz3 hb3 k3
     by_cases hin : p.code[l].op < 0 ∨ 24 ≤ p.code[l].op
     ·have HC := Hid.mk (word28_out (w := wr) hin)
      obtain rfl : R = false := by rw [← HR.out]; exact HY.out (okI_out hin)
      obtain ⟨M, m0, -⟩ := HM.out 0 (by omega)
      clear HR HT HY HM hin
      generalize p.code[l].op = q1 at *
      generalize p.code[l].arg = q2 at *
      go_wp2_with fail
      refine HC.out.mono ?_
      rintro e w1 ⟨rfl, rfl⟩
      go_wp2_with fail
      go_ret
      exact ⟨rfl, HK0.out.then HK3.out⟩
     ·obtain ⟨i, hi⟩ : ∃ i : Nat, p.code[l].op = (i : Int) := ⟨p.code[l].op.toNat, by omega⟩
      have hi24 : i < words.length := by rw [words_length]; omega
      obtain ⟨s, k, hw⟩ : ∃ s k, words[i]? = some (s, k) := ⟨words[i].1, words[i].2, by rw [List.getElem?_eq_getElem hi24]⟩
      have hk5 := (words_len _ (List.mem_of_getElem? hw)).2
      have hs := words_some _ (List.mem_of_getElem? hw)
      dsimp only at hk5 hs
      have HC := Hid.mk (word28 (w := wr) hw)
      have hok := okI_at (nn := p.names.length) (nc := p.code.length) hi hw hk5
      have ts : (s == []) = false := by simpa using hs
      have ts2 : s.isEmpty = false := by simpa using hs
      obtain ⟨M, m0, hM⟩ := HM.out k hk5
      have hkI : (k : Int) < 6 := by omega
      have hkN : k < 6 := by omega
      have hk0 : (0 : Int) ≤ (k : Int) := by omega
      rw [hi] at hc1
      have HM2 : Hid (k ≠ 1 → choiceN p.names.length p.code.length k = M + 1) := fun h => by rw [choice_most hk5 h, hM h]
      clear HM hw hs hi24 hi hM
      have HZ := Hid.mk z3
      by_cases h1 : k = 1
      ·subst h1
       have HT' := Hid.mk (HT.out (by rw [hok]; simp))
       clear hok HT HY HM2
       generalize p.code[l].arg = q2 at *
       go_wp2_with fail
       refine HC.out.mono ?_
       rintro e w1 ⟨rfl, rfl⟩
       go_wp2_with fail
       go_roundw
       case rel => exact ⟨l + 1, HK3, by go_num, by omega, HT'⟩
       case measure => simp [intOf]; omega
      ·have t1 : ((k : Int) == 1) = false := by simp; omega
       have t1' : ((k : Int) != 1) = true := by simp; omega
       rw [HM2.out h1] at hok
       generalize p.code[l].arg = q2 at *
       by_cases h2 : q2 < 0
       ·obtain rfl : R = false := by rw [← HR.out]; exact HY.out (by rw [hok]; simp; omega)
        clear hok HT HY HM2 HR
        go_wp2_with fail
        refine HC.out.mono ?_
        rintro e w1 ⟨rfl, rfl⟩
        go_wp2_with fail
        go_ret
        exact ⟨rfl, HK0.out.then HK3.out⟩
       ·by_cases h3 : M < q2
        ·obtain rfl : R = false := by rw [← HR.out]; exact HY.out (by rw [hok]; simp; omega)
         clear hok HT HY HM2 HR
         go_wp2_with fail
         refine HC.out.mono ?_
         rintro e w1 ⟨rfl, rfl⟩
         go_wp2_with fail
         go_ret
         exact ⟨rfl, HK0.out.then HK3.out⟩
        ·have HT' := Hid.mk (HT.out (by rw [hok]; simp; omega))
         clear hok HT HY HM2
         go_wp2_with fail
         refine HC.out.mono ?_
         rintro e w1 ⟨rfl, rfl⟩
         go_wp2_with fail
         go_roundw
         case rel => exact ⟨l + 1, HK3, by go_num, by omega, HT'⟩
         case measure => simp [intOf]; omega
    ·have hje2 : ¬ (l : Int) < (p.code.length : Int) := by omega
     obtain rfl : R = true := by rw [← HR.out]; exact formed_yes (by omega) (by omega) HJ'.out (fun i hi => HL.out i hi (by omega))
     clear HL HR
     go_wp2_with fail
     go_ret
     exact ⟨rfl, HKW.out⟩
end
section
variable {P : Program} {w : World} {g : Nat} {t : TypeId} {L X : List Value}
theorem store_mid (o : Nat) (ty : TypeId) (hb : w.heap[g]? = some (.cells L.toArray t (0, 0))) (hl : o + X.length ≤ L.length) (hi : (P.info? ty).map (·.size) = some X.length) (h1 : ∀ v ∈ X, v.oneCell' = true) : ∃ W, (Instr.storeAt ty (.pointer (some ⟨g, o, none⟩)) (.agg X.toArray)).run P w = .ok () W ∧ W.heap[g]? = some (.cells (L.take o ++ X ++ L.drop (o + X.length)).toArray t (0, 0)) ∧ Kept [g] w W := by
 refine ⟨_, run_storeAt_mid w g o ty X.toArray (fun j hj => ?_) (by rw [List.size_toArray]; exact hi) (all_oneCell_toArray h1), ?_, Kept.setCells (.inl (by simp)) _ (Kept.refl [g] w) o⟩
 ·rw [List.size_toArray] at hj
  refine ⟨?_, by simp [World.frozen?, hb]⟩
  have : o + j < L.length := by omega
  simp [World.cell?, hb, this]
 ·rw [List.toList_toArray]
  have := setCells_list X (o := o) hb
  rw [sets_eq X L o hl] at this
  exact this
end
theorem size49 : (Tryz.prog.info? 113).map (·.size) = some 12 := by kernel_rfl
theorem size26 : (Tryz.prog.info? 84).map (·.size) = some 8 := by kernel_rfl
theorem FSt.c_k {B : Bs} {w : World} {p : Nat} {m : Mc} {k : Nat} (h : FSt B w p m k) : w.cell? ⟨p, 20, none⟩ = some (.int .i64 (k : Int)) := by
 obtain ⟨sv, ev, sn, tm, h⟩ := h
 exact h.c_k
theorem FSt.c_at {B : Bs} {w : World} {p : Nat} {m : Mc} {k : Nat} (h : FSt B w p m k) : w.cell? ⟨p, 7, none⟩ = some (.int .i64 (m.at_ : Int)) := by
 obtain ⟨sv, ev, sn, tm, h⟩ := h
 exact h.c_at
theorem FSt.put_k {B : Bs} {w : World} {p : Nat} {m : Mc} {k : Nat} (h : FSt B w p m k) : w.frozen? ⟨p, 20, none⟩ = false ∧ FSt B (w.setCell ⟨p, 20, none⟩ (.int .i64 ((k + 1 : Nat) : Int))) p m (k + 1) := by
 obtain ⟨sv, ev, sn, tm, h⟩ := h
 exact ⟨h.rs.free 20, _, _, _, _, h.put_k (k + 1)⟩
theorem start_F (B : Bs) (reg : List Int) (h8 : reg.length = 8) : ∃ W, (Instr.storeAt 84 (.pointer (some ⟨B.w0.heap.size, 9, none⟩)) (.agg (BI_N reg).toArray)).run Tryz.prog (B.w0.alloc (.cells (preF B 0 (.slice none 0 0) ++ cellsR z8_N (.slice none 0 0) (.slice none 0 0) (.slice none 0 0) 0).toArray 189)) = .ok () W ∧ FSt B W B.w0.heap.size (Mc.start reg) 0 := by
 have k1 := (Kept.refl [] B.w0).alloc (.cells (preF B 0 (.slice none 0 0) ++ cellsR z8_N (.slice none 0 0) (.slice none 0 0) (.slice none 0 0) 0).toArray 189)
 obtain ⟨W, h1, h2, h3⟩ := store_mid (P := Tryz.prog) (X := BI_N reg) 9 84 (heap_alloc_new B.w0 (.cells (preF B 0 (.slice none 0 0) ++ cellsR z8_N (.slice none 0 0) (.slice none 0 0) (.slice none 0 0) 0).toArray 189)) (by rw [BI_length_N, h8]; show 9 + 8 ≤ 21; omega) (by rw [BI_length_N, h8]; exact size26) (BI_one_N reg)
 have kk : Kept [] B.w0 W := k1.trans h3 (fun x hx => .inr (by simp at hx; omega))
 have e : (preF B 0 (.slice none 0 0) ++ cellsR z8_N (.slice none 0 0) (.slice none 0 0) (.slice none 0 0) 0).take 9 ++ BI_N reg ++ (preF B 0 (.slice none 0 0) ++ cellsR z8_N (.slice none 0 0) (.slice none 0 0) (.slice none 0 0) 0).drop (9 + (BI_N reg).length) = preF B 0 (.slice none 0 0) ++ cellsR reg (.slice none 0 0) (.slice none 0 0) (.slice none 0 0) 0 := by
  rw [BI_length_N, h8]
  show preF B 0 (.slice none 0 0) ++ BI_N reg ++ _ = _
  rw [List.append_assoc]
  rfl
 rw [e] at h2
 exact ⟨W, h1, .slice none 0 0, _, _, _, Out.nil kk, ⟨h2, h8, Out.nil kk, Out.nil kk, Out.nil kk, Nat.le_refl _⟩⟩
def wL (ls : List Lq) : Nat := (ls.map fun q => q.x.args.length + q.x.fr.length + 1).sum
def wT (ts : List (List UInt8)) : Nat := (ts.map fun t => t.length + 1).sum
theorem sum_step {α : Type} (f : α → Nat) (l : List α) (j : Nat) (x : α) (h : l[j]? = some x) : ((l.take (j + 1)).map f).sum = ((l.take j).map f).sum + f x := by
 rw [List.take_add_one, h]; simp
theorem sum_le {α : Type} (f : α → Nat) (l : List α) (j : Nat) : ((l.take j).map f).sum ≤ (l.map f).sum := by
 have : (l.map f).sum = ((l.take j).map f).sum + ((l.drop j).map f).sum := by
  rw [← List.sum_append, ← List.map_append, List.take_append_drop]
 omega
def FewS (ls ps : List Lq) (ts : List (List UInt8)) (n : Nat) (p : Pg) (e : Ending) : Prop :=
 (e = .returned (.bool true) ∧ wL ls + wL ps + wT ts < 10000 ∧ n < 300 ∧ p.names.length ≤ 51 ∧ p.code.length ≤ 1000) ∨ e = .returned (.bool false)
section
variable {w : World}
set_option maxHeartbeats 8000000 in
theorem few8 {a1 a2 a3 a4 : Option Addr} {n1 n2 n3 n4 c1 c2 c3 c4 : Nat} {ls ps : List Lq} {ts : List (List UInt8)} {es : List Ep} {tr : Int} {v u : Value} {p : Pg}
  (hl : RowQ w (.slice a1 n1 c1) ls) (hp : RowQ w (.slice a2 n2 c2) ps) (ht : TextsIn w (.slice a3 n3 c3) ts) (he : ReadsR 2 w (.slice a4 n4 c4) (CE es)) (hb : wL ls + wL ps + wT ts ≤ 2000000)
  (hP : IsP_N w v u p) (hK : ∀ s ∈ p.names, s.length ≤ 9223372036854775807) :
  Calls Tryz.prog 8 #[.agg #[.slice a1 n1 c1, .slice a2 n2 c2, .slice a3 n3 c3, .slice a4 n4 c4, .int .i64 tr], .agg #[v, u]] w fun e w' => FewS ls ps ts es.length p e ∧ Kept [] w w' := by
 obtain ⟨av, cv, bv, dv, rfl, rfl, -, -⟩ := hP.form
 obtain ⟨W0, e0, k0, hz0, hb0, hb1⟩ := box2 w (.cells #[.slice a1 n1 c1, .slice a2 n2 c2, .slice a3 n3 c3, .slice a4 n4 c4, .int .i64 tr] 29) (.cells #[.slice av p.names.length cv, .slice bv p.code.length dv] 25)
 have HK0 := Hid.mk k0
 have HFw : Hid (∀ W, Kept [] W0 W → Calls Tryz.prog 17 #[.agg #[.slice av p.names.length cv, .slice bv p.code.length dv]] W fun e w' => FewAt_N p e ∧ Kept [] W w') := Hid.mk fun W k => few9 (hP.keep (k0.then k)) hK
 have HS : Hid (∀ W, Kept [] W0 W → (W.cell? ⟨w.heap.size, 0, none⟩ = some (.slice a1 n1 c1) ∧ W.cell? ⟨w.heap.size, 1, none⟩ = some (.slice a2 n2 c2) ∧ W.cell? ⟨w.heap.size, 2, none⟩ = some (.slice a3 n3 c3) ∧ W.cell? ⟨w.heap.size, 3, none⟩ = some (.slice a4 n4 c4) ∧ W.cell? ⟨w.heap.size, 4, none⟩ = some (.int .i64 tr)) ∧ W.cell? ⟨w.heap.size + 1, 0, none⟩ = some (.slice av p.names.length cv) ∧ W.cell? ⟨w.heap.size + 1, 1, none⟩ = some (.slice bv p.code.length dv)) := Hid.mk fun W k => ⟨cells5 (k.keeps hb0 (by simp)), cells2_N (k.keeps hb1 (by simp))⟩
 have HL : Hid (∀ W, Kept [] W0 W → RowQ W (.slice a1 n1 c1) ls) := Hid.mk fun W k => hl.kept (k0.then k) (by simp)
 have HPs : Hid (∀ W, Kept [] W0 W → RowQ W (.slice a2 n2 c2) ps) := Hid.mk fun W k => hp.kept (k0.then k) (by simp)
 have HTs : Hid (∀ W, Kept [] W0 W → TextsIn W (.slice a3 n3 c3) ts) := Hid.mk fun W k => ht.kept0 (k0.then k)
 obtain ⟨hn1, z1, z1'⟩ := hl.bound
 obtain ⟨hn2, z2, z2'⟩ := hp.bound
 obtain ⟨hn3, z3, z3'⟩ := ht.bound
 have hm1 : n1 ≤ 9223372036854775807 := by omega
 have hm2 : n2 ≤ 9223372036854775807 := by omega
 have hm3 : n3 ≤ 9223372036854775807 := by omega
 clear z1 z1' z2 z2' z3 z3'
 have hn4 : n4 = es.length := by obtain ⟨_, _, e, -⟩ := rowE_form he; injection e
 have HN := Hid.mk (And.intro hn1 (And.intro hn2 (And.intro hn3 hn4)))
 obtain ⟨S, hS⟩ : ∃ S : Nat → Nat, Hid (∀ j, S j = wL (ls.take j)) := ⟨_, Hid.mk fun _ => rfl⟩
 obtain ⟨R, hR⟩ : ∃ R : Nat → Nat, Hid (∀ j, R j = wL ls + wL (ps.take j)) := ⟨_, Hid.mk fun _ => rfl⟩
 obtain ⟨U, hU⟩ : ∃ U : Nat → Nat, Hid (∀ j, U j = wL ls + wL ps + wT (ts.take j)) := ⟨_, Hid.mk fun _ => rfl⟩
 have HSs : Hid (∀ j q, ls[j]? = some q → S (j + 1) = S j + q.x.args.length + q.x.fr.length + 1) := Hid.mk fun j q h => by rw [hS.out, hS.out]; unfold wL; rw [sum_step _ ls j q h]; omega
 have HRs : Hid (∀ j q, ps[j]? = some q → R (j + 1) = R j + q.x.args.length + q.x.fr.length + 1) := Hid.mk fun j q h => by rw [hR.out, hR.out]; unfold wL; rw [sum_step _ ps j q h]; omega
 have HUs : Hid (∀ j t, ts[j]? = some t → U (j + 1) = U j + t.length + 1) := Hid.mk fun j t h => by rw [hU.out, hU.out]; unfold wT; rw [sum_step _ ts j t h]; omega
 have HSb : Hid (∀ j, S j ≤ 2000000) := Hid.mk fun j => by rw [hS.out]; have := sum_le (fun q : Lq => q.x.args.length + q.x.fr.length + 1) ls j; unfold wL at *; omega
 have HRb : Hid (∀ j, R j ≤ 2000000) := Hid.mk fun j => by rw [hR.out]; have := sum_le (fun q : Lq => q.x.args.length + q.x.fr.length + 1) ps j; unfold wL at *; omega
 have HUb : Hid (∀ j, U j ≤ 2000000) := Hid.mk fun j => by rw [hU.out]; have := sum_le (fun t : List UInt8 => t.length + 1) ts j; unfold wT at *; omega
 have HE : Hid (S 0 = 0 ∧ S n1 = R 0 ∧ R n2 = U 0 ∧ U n3 = wL ls + wL ps + wT ts) := Hid.mk ⟨by rw [hS.out]; rfl, by rw [hS.out, hR.out, hn1, List.take_length]; simp [wL], by rw [hR.out, hU.out, hn2, List.take_length]; simp [wT], by rw [hU.out, hn3, List.take_length]⟩
 clear hl hp ht he hP hK hb k0 hb0 hb1 hz0 hn1 hn2 hn3 hn4 hS hR hU
 go_enter Tryz.func8, Tryz.ntmps8
 obtain ⟨⟨y0, y1, y2, y3, y4⟩, y5, y6⟩ := HS.out W0 (Kept.refl _ _)
 go_wp2_with fail
 clear y0 y1 y2 y3 y4 y5 y6
 go_loopw [5, 12] (fun m i wr => ∃ j : Nat, i = .int .i64 (j : Int) ∧ j ≤ n1 ∧ m = .int .i64 (S j : Int) ∧ Hid (Kept [] W0 wr)) (fun _ i _ => n1 - (intOf i).toNat)
 case atStart => exact ⟨0, rfl, by omega, by rw [HE.out.1]; rfl, Hid.mk (Kept.refl _ _)⟩
 case round =>
  obtain ⟨j, rfl, hj, rfl, KKj⟩ := hrel
  have hbj := HSb.out j
  by_cases hlt : j < n1
  ·have HLT := Hid.mk hlt
   obtain ⟨q, hq⟩ : ∃ q, ls[j]? = some q := ⟨_, List.getElem?_eq_getElem (by have := HN.out.1; omega)⟩
   have KD := Hid.mk KKj.out.drew
   obtain ⟨b, o, rfl, d0, d1, d2, d3⟩ := (HL.out _ KD.out).at hq
   have d3 : World.cell? _ ⟨b, o + j * 4 + 3, none⟩ = some (.slice q.ad q.x.args.length q.cap) := d3
   have hg0 := (HS.out _ KD.out).1.1
   have HN1 := Hid.mk (HSs.out j q hq)
   have hbn := HSb.out (j + 1)
   have hjI : (j : Int) < (n1 : Int) := by omega
   have hjI0 : (0 : Int) ≤ (j : Int) := by omega
   have hqb : S j + q.x.args.length + q.x.fr.length + 1 ≤ 2000000 := by rw [← HN1.out]; exact hbn
   have hsz : (⟨q.x.fr.toArray⟩ : ByteArray).size = q.x.fr.length := by simp [ByteArray.size]
   generalize q.x.args.length = na at *
   generalize q.x.fr.length = nf at *
   have e1 : IntKind.i64.wrap ((S j : Int) + (na : Int)) = ((S j + na : Nat) : Int) := by rw [IntKind.wrap_i64]; omega
   have e2 : IntKind.i64.wrap (((S j + na : Nat) : Int) + (nf : Int)) = ((S j + na + nf : Nat) : Int) := by rw [IntKind.wrap_i64]; omega
   have e3 : IntKind.i64.wrap (((S j + na + nf : Nat) : Int) + 1) = ((S j + na + nf + 1 : Nat) : Int) := by rw [IntKind.wrap_i64]; omega
   have HEE := Hid.mk (And.intro e1 (And.intro e2 e3))
   clear hq hbn e1 e2 e3 d1 d2
   go_wp2_with fail
   go_region_held3 (fun V => V.cell? ⟨w.heap.size, 0, none⟩ = some (.slice (some ⟨b, o, none⟩) n1 c1) ∧ V.cell? ⟨b, o + j * 4, none⟩ = some (Sv q.x.fr) ∧ V.cell? ⟨b, o + j * 4 + 3, none⟩ = some (.slice q.ad na q.cap)) (first | exact ⟨hg0, d0, d3⟩) (fail)
   rw [HEE.out.1, HEE.out.2.1, HEE.out.2.2, ← HN1.out]
   clear HEE HN1 hqb hsz hg0 d0 d3
   go_wp2_with fail
   go_roundw
   case rel => exact ⟨j + 1, by go_num, by have := HLT.out; omega, rfl, KD⟩
   case measure => (have := HLT.out; simp [intOf]; omega)
  ·obtain rfl : j = n1 := by omega
   have hjI : ((j : Int) < (j : Int)) = False := eq_false (by omega)
   rw [HE.out.2.1]
   obtain ⟨⟨-, y1, -, -, -⟩, -⟩ := HS.out wr KKj.out
   have HKj := Hid.mk KKj.out
   clear hbj hjI
   go_wp2_with fail
   clear y1
   go_loopw [5, 37] (fun m i w2 => ∃ k : Nat, i = .int .i64 (k : Int) ∧ k ≤ n2 ∧ m = .int .i64 (R k : Int) ∧ Hid (Kept [] W0 w2)) (fun _ i _ => n2 - (intOf i).toNat)
   case atStart => exact ⟨0, rfl, by omega, rfl, HKj⟩
   case round =>
    obtain ⟨k, rfl, hk, rfl, KKk⟩ := hrel
    have hbk := HRb.out k
    by_cases hlt : k < n2
    ·have HLT := Hid.mk hlt
     obtain ⟨q, hq⟩ : ∃ q, ps[k]? = some q := ⟨_, List.getElem?_eq_getElem (by have := HN.out.2.1; omega)⟩
     have KD := Hid.mk KKk.out.drew
     obtain ⟨b, o, rfl, d0, d1, d2, d3⟩ := (HPs.out _ KD.out).at hq
     have d3 : World.cell? _ ⟨b, o + k * 4 + 3, none⟩ = some (.slice q.ad q.x.args.length q.cap) := d3
     have hg0 := (HS.out _ KD.out).1.2.1
     have HN1 := Hid.mk (HRs.out k q hq)
     have hbn := HRb.out (k + 1)
     have hjI : (k : Int) < (n2 : Int) := by omega
     have hjI0 : (0 : Int) ≤ (k : Int) := by omega
     have hqb : R k + q.x.args.length + q.x.fr.length + 1 ≤ 2000000 := by rw [← HN1.out]; exact hbn
     have hsz : (⟨q.x.fr.toArray⟩ : ByteArray).size = q.x.fr.length := by simp [ByteArray.size]
     generalize q.x.args.length = na at *
     generalize q.x.fr.length = nf at *
     have e1 : IntKind.i64.wrap ((R k : Int) + (na : Int)) = ((R k + na : Nat) : Int) := by rw [IntKind.wrap_i64]; omega
     have e2 : IntKind.i64.wrap (((R k + na : Nat) : Int) + (nf : Int)) = ((R k + na + nf : Nat) : Int) := by rw [IntKind.wrap_i64]; omega
     have e3 : IntKind.i64.wrap (((R k + na + nf : Nat) : Int) + 1) = ((R k + na + nf + 1 : Nat) : Int) := by rw [IntKind.wrap_i64]; omega
     have HEE := Hid.mk (And.intro e1 (And.intro e2 e3))
     clear hq hbn e1 e2 e3 d1 d2
     go_wp2_with fail
     go_region_held3 (fun V => V.cell? ⟨w.heap.size, 1, none⟩ = some (.slice (some ⟨b, o, none⟩) n2 c2) ∧ V.cell? ⟨b, o + k * 4, none⟩ = some (Sv q.x.fr) ∧ V.cell? ⟨b, o + k * 4 + 3, none⟩ = some (.slice q.ad na q.cap)) (first | exact ⟨hg0, d0, d3⟩) (fail)
     rw [HEE.out.1, HEE.out.2.1, HEE.out.2.2, ← HN1.out]
     clear HEE HN1 hqb hsz hg0 d0 d3
     go_wp2_with fail
     go_roundw
     case rel => exact ⟨k + 1, by go_num, by have := HLT.out; omega, rfl, KD⟩
     case measure => (have := HLT.out; simp [intOf]; omega)
    ·obtain rfl : k = n2 := by omega
     have hjI : ((k : Int) < (k : Int)) = False := eq_false (by omega)
     rw [HE.out.2.2.1]
     obtain ⟨⟨-, -, y2, -, -⟩, -⟩ := HS.out wr KKk.out
     have HKk := Hid.mk KKk.out
     clear hbk hjI
     go_wp2_with fail
     clear y2
     go_loopw [5, 62] (fun v i w3 => ∃ m : Nat, i = .int .i64 (m : Int) ∧ m ≤ n3 ∧ v = .int .i64 (U m : Int) ∧ Hid (Kept [] W0 w3)) (fun _ i _ => n3 - (intOf i).toNat)
     case atStart => exact ⟨0, rfl, by omega, rfl, HKk⟩
     case round =>
      obtain ⟨m, rfl, hm, rfl, KKm⟩ := hrel
      have hbm := HUb.out m
      by_cases hlt : m < n3
      ·have HLT := Hid.mk hlt
       obtain ⟨t, ht⟩ : ∃ t, ts[m]? = some t := ⟨_, List.getElem?_eq_getElem (by have := HN.out.2.2.1; omega)⟩
       obtain ⟨b, o, rfl, d0⟩ := (HTs.out _ KKm.out).at ht
       have hg0 := (HS.out _ KKm.out).1.2.2.1
       have HN1 := Hid.mk (HUs.out m t ht)
       have hbn := HUb.out (m + 1)
       have hjI : (m : Int) < (n3 : Int) := by omega
       have hjI0 : (0 : Int) ≤ (m : Int) := by omega
       have hqb : U m + t.length + 1 ≤ 2000000 := by rw [← HN1.out]; exact hbn
       have hsz : (⟨t.toArray⟩ : ByteArray).size = t.length := by simp [ByteArray.size]
       generalize t.length = nt at *
       clear ht hbn
       go_wp2_with fail
       go_roundw
       case rel => exact ⟨m + 1, by go_num, by have := HLT.out; omega, by rw [HN1.out]; go_num, KKm⟩
       case measure => (have := HLT.out; simp [intOf]; omega)
      ·obtain rfl : m = n3 := by omega
       have hjI : ((m : Int) < (m : Int)) = False := eq_false (by omega)
       obtain ⟨⟨-, -, -, y3, -⟩, y5, y6⟩ := HS.out wr KKm.out
       have hUe := HE.out.2.2.2
       rw [hUe]
       rw [hUe] at hbm
       have HF := Hid.mk (HFw.out wr KKm.out)
       have h4 := HN.out.2.2.2
       generalize hWW : wL ls + wL ps + wT ts = WW at *
       by_cases hw : WW < 10000
       ·have hwI : (WW : Int) < 10000 := by omega
        by_cases h3 : n4 < 300
        ·have h3I : (n4 : Int) < 300 := by omega
         have HH := Hid.mk (And.intro hw (And.intro h3 (And.intro hWW h4)))
         clear hw h3 hWW h4 hUe
         go_wp2_with fail
         refine HF.out.mono ?_
         rintro e w5 ⟨hf, k5⟩
         obtain ⟨q1, q2, q3, q4⟩ := HH.out
         have kf := HK0.out.then (KKm.out.then k5)
         clear HH k5
         rcases hf with ⟨rfl, -, f2, f3⟩ | rfl
         ·go_wp2_with fail
          go_ret
          exact ⟨.inl ⟨rfl, by omega, by omega, f2, f3⟩, kf⟩
         ·go_wp2_with fail
          go_ret
          exact ⟨.inr rfl, kf⟩
        ·have h3I : ((n4 : Int) < 300) = False := eq_false (by omega)
         clear hw h3 hWW h4 hUe
         go_wp2_with fail
         go_ret
         exact ⟨.inr rfl, HK0.out.then KKm.out⟩
       ·have hwI : ((WW : Int) < 10000) = False := eq_false (by omega)
        clear hw hWW h4 hUe
        go_wp2_with fail
        go_ret
        exact ⟨.inr rfl, HK0.out.then KKm.out⟩
end
end Go.Proofs.YtngnenbidpojeaaGreatDoor
namespace Go.Proofs.YtngnenbidpojeaaGreatDoor
set_option maxRecDepth 100000
set_option linter.unusedVariables false
def ordB : List La → List Ot → Bool
 | _, [] => true
 | K, y :: A => hasK K y.to && (ser K y.to != 0) && (y.x.ser == ser K y.to) && ordB (setK K y.to (ser K y.to - 1)) A
theorem ordR_cons (k : List UInt8) (y : Ot) (A : List Ot) (s : Nat) : ordR k (y :: A) s = if y.to = k then (s != 0) && (y.x.ser == s) && ordR k A (s - 1) else ordR k A s := by
 rw [ordR]
 by_cases h : y.to = k
 ·simp [h]
  by_cases h0 : s = 0 <;> by_cases h1 : y.x.ser = s <;> simp [h0, h1]
 ·simp [h]
theorem setK_set_mem {K : List La} {to : List UInt8} {s : Nat} (hr : Rise K) (hh : hasK K to = true) (z : La) : z ∈ setK K to s ↔ z = ⟨to, s⟩ ∨ (z ∈ K ∧ z.k ≠ to) := by
 constructor
 ·intro hz
  have hr' := hr.setK (to := to) s
  rcases setK_mem hz with h | h
  ·exact .inl h
  ·by_cases e : z.k = to
   ·left
    have h1 := ser_mem hr' hz
    rw [e, (ser_set_same K to s).1] at h1
    obtain ⟨k, t⟩ := z
    simp at e h1
    rw [e, h1]
   ·exact .inr ⟨h, e⟩
 ·rintro (rfl | ⟨h, e⟩)
  ·have h2 := (ser_set_same K to s).2
   obtain ⟨t, h3, h4⟩ := has_at h2
   rw [(ser_set_same K to s).1] at h4
   subst h4
   exact List.mem_of_getElem? h3
  ·have h1 := (ser_set_other (to := to) s hr e)
   have h2 : hasK K z.k = true := (has_mem hr).2 ⟨z, h, rfl⟩
   have h3 := ser_mem hr h
   rw [h2] at h1
   obtain ⟨t, h4, h5⟩ := has_at h1.2
   rw [h1.1, h3] at h5
   have : z = ⟨z.k, t⟩ := by obtain ⟨k, s'⟩ := z; simp at h5; simp [h5]
   rw [this]
   exact List.mem_of_getElem? h4
theorem ordB_iff : ∀ (A : List Ot) {K : List La}, Rise K → (ordB K A = true ↔ (∀ y ∈ A, hasK K y.to = true) ∧ ∀ z ∈ K, ordR z.k A z.s = true)
 | [], K, hr => by simp [ordB, ordR]
 | y :: A, K, hr => by
  rw [ordB]
  simp only [Bool.and_eq_true]
  constructor
  ·rintro ⟨⟨⟨h1, h2⟩, h3⟩, h4⟩
   have ih := (ordB_iff A (hr.setK (to := y.to) _)).1 h4
   refine ⟨fun z hz => ?_, fun z hz => ?_⟩
   ·rcases List.mem_cons.1 hz with rfl | hz
    ·exact h1
    ·have := ih.1 z hz
     by_cases e : z.to = y.to
     ·rw [e]; exact h1
     ·rw [(ser_set_other _ hr e).2] at this; exact this
   ·rw [ordR_cons]
    by_cases e : y.to = z.k
    ·rw [if_pos e]
     have hs := ser_mem hr hz
     rw [← e] at hs
     have := ih.2 ⟨y.to, ser K y.to - 1⟩ ((setK_set_mem hr h1 _).2 (.inl rfl))
     rw [← hs]
     simp only [Bool.and_eq_true]
     rw [← e]
     exact ⟨⟨h2, h3⟩, this⟩
    ·rw [if_neg e]
     exact ih.2 z ((setK_set_mem hr h1 _).2 (.inr ⟨hz, fun h => e h.symm⟩))
  ·rintro ⟨h1, h2⟩
   have hh := h1 y (by simp)
   obtain ⟨s, g1, g2⟩ := has_at hh
   have hz := List.mem_of_getElem? g1
   have h3 := h2 _ hz
   rw [ordR_cons, if_pos rfl] at h3
   simp only [Bool.and_eq_true] at h3
   rw [g2]
   refine ⟨⟨⟨hh, h3.1.1⟩, h3.1.2⟩, (ordB_iff A (hr.setK (to := y.to) _)).2 ⟨fun z hz => ?_, fun z hz => ?_⟩⟩
   ·have := h1 z (by simp [hz])
    by_cases e : z.to = y.to
    ·rw [e]; exact (ser_set_same _ _ _).2
    ·rw [(ser_set_other _ hr e).2]; exact this
   ·rcases (setK_set_mem hr hh z).1 hz with rfl | ⟨hz', e⟩
    ·exact h3.2
    ·have := h2 z hz'
     rw [ordR_cons, if_neg (fun h => e h.symm)] at this
     exact this
theorem ordB_ord {K : List La} (hr : Rise K) (L : List Ot) : ordB K L.reverse = (decide (∀ y ∈ L, hasK K y.to = true) && ordO K L) := by
 rw [Bool.eq_iff_iff, ordB_iff _ hr]
 simp [ordO]
end Go.Proofs.YtngnenbidpojeaaGreatDoor
