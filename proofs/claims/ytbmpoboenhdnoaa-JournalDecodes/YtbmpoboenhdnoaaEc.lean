/-
  Encode of a journal.
-/
import Derived.Test.YtbmpoboenhdnoaaOn
import Derived.Test.YtbmpoboenhdnoaaAwake
import Derived.Test.YtbmpoboenhdnoaaWNum
import Derived.Test.YtbmpoboenhdnoaaWBytes
import Derived.Test.YtbmpoboenhdnoaaWText
import Derived.Test.YtbmpoboenhdnoaaRef
import Derived.Test.YtbmpoboenhdnoaaOneWalk
namespace Go.Proofs.Ytbmpoboenhdnoaa
set_option maxRecDepth 100000
open Go.RowKit
set_option linter.unusedVariables false
/-- A Writer at q with the row v, made since w0. -/
def Wq (w0 w : World) (q : Nat) (v : Value) (l : List UInt8) : Prop := IsW 80 5 w q v l ∧ w0.heap.size ≤ q ∧ Fresh w0 v ∧ Kept [] w0 w
/-- Bytes of one's own. -/
def NewB (w : World) (l : List UInt8) (e : Ending) (w' : World) : Prop := ∃ v, e = .returned v ∧ Owns 5 w' v l ∧ Kept [] w w' ∧ Fresh w v
section
variable {w0 w w' : World} {p q : Nat} {v : Value} {l : List UInt8}
theorem Wq.kept0 (h : Wq w0 w q v l) (k : Kept [] w w') : Wq w0 w' q v l := ⟨h.1.kept k (by simp) (by simp), h.2.1, h.2.2.1, h.2.2.2.trans k (by simp)⟩
theorem owns_ne {e : TypeId} (h : Owns e w v l) {g : Nat} {cs : Array Value} {t : TypeId} {fz : Nat × Nat} (hg : w.heap[g]? = some (.cells cs t fz)) (ht : t ≠ e) : v.ownBlock ≠ some g := fun hv => by
  rcases h.2 with ⟨rfl, _⟩ | ⟨g1, cap, cur, rfl, _, hb, _⟩
  · simp [Value.ownBlock] at hv
  · simp [Value.ownBlock] at hv
    subst hv
    rw [hg] at hb
    injection hb with hb
    injection hb with _ e
    exact ht e
theorem Wq.notin (h : Wq w0 w q v l) {g : Nat} {cs : Array Value} {t : TypeId} (hg : w.heap[g]? = some (.cells cs t (0, 0))) (ht : t ≠ 80 ∧ t ≠ 5) : g ∉ foot q v := fun hm => by
  rcases mem_foot.1 hm with e | e
  · exact box_ne hg h.1.box ht.1 e
  · exact owns_ne h.1.own hg ht.2 e
theorem Wq.laid (h : Wq w0 w q v l) {l' : List UInt8} (L : Laid 80 5 w q v l' w') : ∃ v', Wq w0 w' q v' l' ∧ Kept (foot q v) w w' := by
  obtain ⟨v', i1, i2, i3⟩ := L
  refine ⟨v', ⟨i1, h.2.1, fun g hg => ?_, h.2.2.2.trans i2 (fun x hx => ?_)⟩, i2⟩
  · rcases i3 g hg with h' | h'
    · exact h.2.2.1 g h'
    · have := h.2.2.2.size; omega
  · rcases mem_foot.1 hx with rfl | h'
    · exact .inr h.2.1
    · exact .inr (h.2.2.1 x h')
theorem wq_num (h : Wq w0 w q v l) {n : Nat} (hn : U64 n) (hb : l.length ≤ 1000000) : Calls Try.prog 33 #[.pointer (some ⟨q, 0, none⟩), Uv n] w fun e w' => e = .returned (.tuple #[]) ∧ ∃ v', Wq w0 w' q v' (l ++ enc n) ∧ Kept (foot q v) w w' := by
  refine (wnum_any q v l n w h.1 hn (by omega)).mono ?_
  rintro e w' ⟨rfl, L⟩
  exact ⟨rfl, h.laid L⟩
theorem wq_int (h : Wq w0 w q v l) {z : Int} (hz : I64 z) (hb : l.length ≤ 1000000) : Calls Try.prog 34 #[.pointer (some ⟨q, 0, none⟩), Iv z] w fun e w' => e = .returned (.tuple #[]) ∧ ∃ v', Wq w0 w' q v' (l ++ enc (fold z)) ∧ Kept (foot q v) w w' := by
  refine (wint_any q v l z w h.1 hz.1 hz.2 (by omega)).mono ?_
  rintro e w' ⟨rfl, L⟩
  exact ⟨rfl, h.laid L⟩
theorem newW (w : World) : Calls Try.prog 32 #[] w fun e w' => ∃ p, e = .returned (.pointer (some ⟨p, 0, none⟩)) ∧ IsW 80 5 w' p (.slice none 0 0) [] ∧ Kept [] w w' ∧ w.heap.size ≤ p := by
  refine (new_w w).mono ?_
  rintro e w' ⟨rfl, rfl⟩
  exact ⟨_, rfl, new_isW w, (Kept.refl [] w).alloc _, Nat.le_refl _⟩
end
theorem encI_length : ∀ (l : List Int), (encI l).length ≤ l.length * 9
  | [] => by simp [encI]
  | z :: l => by
    have h1 := encI_length l
    have h2 := enc_length (fold z)
    unfold encI at *
    simp only [List.flatMap_cons, List.length_append, List.length_cons]
    omega
theorem encV_length : ∀ (l : List Ev), (encV l).length ≤ l.length * 18
  | [] => by simp [encV]
  | e :: l => by
    have h1 := encV_length l
    have h2 := enc_length (fold e.v)
    have h3 := enc_length e.r
    unfold encV at *
    simp only [List.flatMap_cons, List.length_append, List.length_cons]
    omega
theorem encI_take {l : List Int} {j : Nat} {y : Int} (h : l[j]? = some y) : encI (l.take (j + 1)) = encI (l.take j) ++ enc (fold y) := by
  rw [List.take_add_one, h]
  simp [encI]
theorem encV_take {l : List Ev} {j : Nat} {y : Ev} (h : l[j]? = some y) : encV (l.take (j + 1)) = encV (l.take j) ++ (enc y.r ++ enc (fold y.v)) := by
  rw [List.take_add_one, h]
  simp [encV]
section
variable {w : World} {p : Nat} {j : Jn}
set_option maxHeartbeats 2000000 in
theorem encode21 (hJ : IsJ w p j) (hG : GoodJ j) : Calls Try.prog 21 #[.pointer (some ⟨p, 0, none⟩)] w fun e w' => NewB w (encJn j) e w' := by
  have HJ := Hid.mk hJ
  have HG := Hid.mk hG
  have hln := hJ.len
  have e1 := enc_length j.ver
  have e2 := enc_length j.ev.length
  have hb8 := hG.b8
  have hlI := encI_length j.base
  have ha : (List.map (fun n => Iv n) j.base) = BI j.base := rfl
  clear hJ hG ha
  go_enter Try.func21, Try.ntmps21
  go_wp2_with fail
  refine (newW _).mono ?_
  rintro e w2 ⟨q, rfl, hW2, k2, hq2⟩
  have W2 : Wq w w2 q (.slice none 0 0) [] := ⟨hW2, hq2, fresh_nil _ _, k2⟩
  have c2 := (HJ.out.kept0 k2).isP.ver
  have H3 := Hid.mk (wq_num W2 (n := j.ver) HG.out.v64 (by simp))
  clear W2 hW2 k2 hq2
  go_wp2_with fail
  refine H3.out.mono ?_
  rintro e w4 ⟨rfl, v4, W4, -⟩
  clear c2 H3
  rw [List.nil_append] at W4
  have h4 := (HJ.out.kept0 W4.2.2.2).isP
  have hld : (Instr.loadAt 29 (.pointer (some ⟨p, 0, none⟩))).run Try.prog w4 = .ok (.agg (BI j.base).toArray) w4 := run_loadAt_mid w4 p 0 29 _ _ h4.rangeA Try.underlying29 rfl (by rw [BI_length, hb8]; exact size29)
  have HW4 := Hid.mk W4
  clear W4 h4
  generalize hB : enc j.ver = B1 at *
  have HB1 := Hid.mk hB
  clear hB
  go_wp2_with (first | (refine wpList_load_run 29 (.tmp 19) rfl rfl _ rfl _ hld ?_))
  clear hld
  go_loopw [21] (fun i wr => ∃ k : Nat, i = .int .i64 (k : Int) ∧ k ≤ 8 ∧ Hid (∃ v, Wq w wr q v (B1 ++ encI (j.base.take k)))) (fun i _ => 8 - (intOf i).toNat)
  case atStart => exact ⟨0, rfl, by omega, Hid.mk ⟨v4, by simpa [encI] using HW4.out⟩⟩
  case round =>
    obtain ⟨k, rfl, hk, hH⟩ := hrel
    obtain ⟨v6, W6⟩ := hH.out
    have hlK := encI_length (j.base.take k)
    rw [List.length_take] at hlK
    by_cases hlt : k < 8
    · have hkI : (k : Int) < 8 := by omega
      obtain ⟨y, hy⟩ : ∃ y, j.base[k]? = some y := ⟨_, List.getElem?_eq_getElem (by omega)⟩
      have hix : ∀ W : World, (Instr.index 29 (.agg (BI j.base).toArray) (.int .i64 (k : Int))).run Try.prog W = .ok (Iv y) W := fun W => index29 hb8 hy W
      have H8 := Hid.mk (wq_int W6 (z := y) (HG.out.b64 y (List.mem_of_getElem? hy)) (by rw [List.length_append]; omega))
      have HE := Hid.mk (encI_take hy)
      clear hH W6 hy
      go_wp2_with fail
      refine H8.out.mono ?_
      rintro e w8 ⟨rfl, v8, W8, -⟩
      have HW8 : Hid (∃ v, Wq w w8 q v (B1 ++ encI (j.base.take (k + 1)))) := ⟨v8, by rw [HE.out, ← List.append_assoc]; exact W8⟩
      clear H8 W8 hix
      go_wp2_with fail
      go_roundw
      case rel => exact ⟨k + 1, by go_num, by omega, HW8⟩
      case measure => simp [intOf]; omega
    · obtain rfl : k = 8 := by omega
      have hJ6 := HJ.out.kept0 W6.2.2.2
      have c6 := hJ6.isP.count
      rw [List.take_of_length_le (by omega)] at W6 hlK
      have H8 := Hid.mk (wq_num W6 (n := j.ev.length) (by unfold U64; omega) (by rw [List.length_append]; omega))
      have g0 : IntKind.u64.wrap (j.ev.length : Int) = (j.ev.length : Int) := by rw [IntKind.wrap_u64]; omega
      have g1 : (0 : Int) ≤ (j.ev.length : Int) := by omega
      clear hH W6 hJ6
      generalize hn : j.ev.length = n at *
      have HN := Hid.mk hn
      clear hn
      go_wp2_with fail
      refine H8.out.mono ?_
      rintro e w8 ⟨rfl, v8, W8, -⟩
      have HC := Hid.mk (behind31 (HJ.out.kept0 W8.2.2.2))
      rw [HN.out] at HC
      have HW8 := Hid.mk W8
      clear H8 W8 c6
      go_wp2_with fail
      refine HC.out.mono ?_
      rintro e w9 ⟨rfl, k9⟩
      have HW9 := Hid.mk (HW8.out.kept0 k9)
      have hX1 : (B1 ++ encI j.base ++ enc n).length ≤ 90 := by rw [List.length_append, List.length_append]; omega
      generalize hX : B1 ++ encI j.base ++ enc n = X at *
      have HX := Hid.mk hX
      clear HC HW8 k9 hX
      go_wp2_with fail
      go_loopw [38] (fun i wr => ∃ k : Nat, i = .int .i64 (k : Int) ∧ k ≤ n ∧ Hid (∃ v, Wq w wr q v (X ++ encV (j.ev.take k)))) (fun i _ => n - (intOf i).toNat)
      case atStart => exact ⟨0, rfl, by omega, Hid.mk ⟨v8, by simpa [encV] using HW9.out⟩⟩
      case round =>
        obtain ⟨k, rfl, hk2, hH⟩ := hrel
        obtain ⟨v10, W10⟩ := hH.out
        have hlK2 := encV_length (j.ev.take k)
        rw [List.length_take] at hlK2
        by_cases hlt2 : k < n
        · have hkI2 : (k : Int) < (n : Int) := by omega
          have hnI : (n : Int) ≤ 16 := by omega
          obtain ⟨y, hy⟩ : ∃ y, j.ev[k]? = some y := ⟨_, List.getElem?_eq_getElem (by have := HN.out; omega)⟩
          obtain ⟨d0, d1⟩ := (HJ.out.kept0 W10.2.2.2).at hy
          obtain ⟨y7, yv⟩ := HG.out.ev y (List.mem_of_getElem? hy)
          obtain ⟨W11, e11, k11, hz11, hb11⟩ := box1 wr (.cells #[Iv (y.r : Int), Iv y.v] 34)
          have H12 := Hid.mk (wq_num (W10.kept0 k11) (n := y.r) (by unfold U64; omega) (by rw [List.length_append]; omega))
          have HB11 : Hid (wr.heap.size ∉ foot q v10) := (W10.kept0 k11).notin hb11 (by decide)
          have HBX := Hid.mk hb11
          have HE := Hid.mk (encV_take hy)
          have t1 := enc_length y.r
          have hXl : (X ++ encV (j.ev.take k)).length ≤ 378 := by rw [List.length_append]; omega
          have g2 : IntKind.u64.wrap (y.r : Int) = (y.r : Int) := by rw [IntKind.wrap_u64]; omega
          have g3 : (0 : Int) ≤ (y.r : Int) := by omega
          have E11 := Hid.mk e11
          clear hH W10 hy k11 hz11 e11 hb11
          go_wp2_with fail
          rw [E11.out]
          refine H12.out.mono ?_
          rintro e w12 ⟨rfl, v12, W12, k12⟩
          have hb12 := k12.keeps HBX.out HB11.out
          obtain ⟨-, c12⟩ := cells2 hb12
          have H13 := Hid.mk (wq_int W12 yv (by rw [List.length_append]; omega))
          clear W12 k12 hb12 H12 HBX HB11 d0 d1
          go_wp2_with fail
          refine H13.out.mono ?_
          rintro e w13 ⟨rfl, v13, W13, -⟩
          have HW13 : Hid (∃ v, Wq w w13 q v (X ++ encV (j.ev.take (k + 1)))) := ⟨v13, by rw [HE.out]; simpa [List.append_assoc] using W13⟩
          clear W13 H13 c12
          go_wp2_with fail
          go_roundw
          case rel => exact ⟨k + 1, by go_num, by omega, HW13⟩
          case measure => simp [intOf]; omega
        · obtain rfl : k = n := by omega
          have HBt := Hid.mk (wbytes_any q v10 _ wr W10.1 (by rw [List.length_append]; omega))
          have HKr := Hid.mk W10.2.2.2
          clear W10 hH
          go_wp2_with fail
          refine HBt.out.mono ?_
          rintro e w13 ⟨v13, rfl, hO13, k13, hf13⟩
          go_wp2_with fail
          go_ret
          refine ⟨v13, rfl, ?_, HKr.out.trans k13 (by simp), fun g hg => ?_⟩
          · rw [List.take_of_length_le (by have := HN.out; omega), ← HX.out, ← HB1.out] at hO13
            unfold encJn
            rw [HN.out]
            simpa [List.append_assoc] using hO13
          · have := hf13 g hg
            have := HKr.out.size
            omega
end
end Go.Proofs.Ytbmpoboenhdnoaa
