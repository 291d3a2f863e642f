/-
  Encode of a queue.
-/
import Derived.Test.YtelmppfacgdfbaaTw
import Derived.Test.YtelmppfacgdfbaaWText
import Derived.Test.YtelmppfacgdfbaaAwake
import Derived.Test.YtelmppfacgdfbaaRef
import Derived.Test.YtelmppfacgdfbaaOneWalk
namespace Go.Proofs.Ytelmppfacgdfbaa
set_option maxRecDepth 100000
open Go.RowKit
set_option linter.unusedVariables false
/-- A Writer at q with the row v, made since w0. -/
def Wq (w0 w : World) (q : Nat) (v : Value) (l : List UInt8) : Prop := IsW 91 5 w q v l ∧ w0.heap.size ≤ q ∧ Fresh w0 v ∧ Kept [] w0 w
/-- Bytes of one's own. -/
def NewB (w : World) (l : List UInt8) (e : Ending) (w' : World) : Prop := ∃ v, e = .returned v ∧ Owns 5 w' v l ∧ Kept [] w w' ∧ Fresh w v
section
variable {w0 w w' : World} {p q : Nat} {v : Value} {l : List UInt8}
theorem Wq.kept0 (h : Wq w0 w q v l) (k : Kept [] w w') : Wq w0 w' q v l := ⟨h.1.kept k (by simp) (by simp), h.2.1, h.2.2.1, h.2.2.2.trans k (by simp)⟩
theorem owns_ne {e : TypeId} (h : Owns e w v l) {g : Nat} {cs : Array Value} {t : TypeId} {fz : Nat × Nat} (hg : w.heap[g]? = some (.cells cs t fz)) (ht : t ≠ e) : v.ownBlock ≠ some g := fun hv => by
  rcases h.2 with ⟨rfl, _⟩ | ⟨g1, cap, cur, rfl, _, hb, _⟩
  · simp [Value.ownBlock] at hv
  · simp [Value.ownBlock] at hv
    subst hv
    rw [hg] at hb
    injection hb with hb
    injection hb with _ e
    exact ht e
theorem Wq.notin (h : Wq w0 w q v l) {g : Nat} {cs : Array Value} {t : TypeId} (hg : w.heap[g]? = some (.cells cs t (0, 0))) (ht : t ≠ 91 ∧ t ≠ 5) : g ∉ foot q v := fun hm => by
  rcases mem_foot.1 hm with e | e
  · exact box_ne hg h.1.box ht.1 e
  · exact owns_ne h.1.own hg ht.2 e
theorem Wq.laid (h : Wq w0 w q v l) {l' : List UInt8} (L : Laid 91 5 w q v l' w') : ∃ v', Wq w0 w' q v' l' ∧ Kept (foot q v) w w' := by
  obtain ⟨v', i1, i2, i3⟩ := L
  refine ⟨v', ⟨i1, h.2.1, fun g hg => ?_, h.2.2.2.trans i2 (fun x hx => ?_)⟩, i2⟩
  · rcases i3 g hg with h' | h'
    · exact h.2.2.1 g h'
    · have := h.2.2.2.size; omega
  · rcases mem_foot.1 hx with rfl | h'
    · exact .inr h.2.1
    · exact .inr (h.2.2.1 x h')
theorem wq_num (h : Wq w0 w q v l) {n : Nat} (hn : U64 n) (hb : l.length ≤ 1000000) : Calls Try.prog 27 #[.pointer (some ⟨q, 0, none⟩), Uv n] w fun e w' => e = .returned (.tuple #[]) ∧ ∃ v', Wq w0 w' q v' (l ++ enc n) ∧ Kept (foot q v) w w' := by
  refine (wnum_any q v l n w h.1 hn (by omega)).mono ?_
  rintro e w' ⟨rfl, L⟩
  exact ⟨rfl, h.laid L⟩
theorem wq_int (h : Wq w0 w q v l) {z : Int} (hz : I64 z) (hb : l.length ≤ 1000000) : Calls Try.prog 29 #[.pointer (some ⟨q, 0, none⟩), Iv z] w fun e w' => e = .returned (.tuple #[]) ∧ ∃ v', Wq w0 w' q v' (l ++ enc (fold z)) ∧ Kept (foot q v) w w' := by
  refine (wint_any q v l z w h.1 hz.1 hz.2 (by omega)).mono ?_
  rintro e w' ⟨rfl, L⟩
  exact ⟨rfl, h.laid L⟩
theorem wq_text (h : Wq w0 w q v l) (s : List UInt8) (hs : s.length ≤ 1000000) (hb : l.length ≤ 1000000) : Calls Try.prog 28 #[.pointer (some ⟨q, 0, none⟩), Sv s] w fun e w' => e = .returned (.tuple #[]) ∧ ∃ v', Wq w0 w' q v' (l ++ encTx s) ∧ Kept (foot q v) w w' := by
  have hz : (⟨s.toArray⟩ : ByteArray).size = s.length := by simp [ByteArray.size]
  refine (wtext_any q v l ⟨s.toArray⟩ w h.1 (by rw [hz]; omega)).mono ?_
  rintro e w' ⟨rfl, L⟩
  rw [hz] at L
  have e : l ++ enc s.length ++ s = l ++ encTx s := by unfold encTx; rw [List.append_assoc]
  have L : Laid 91 5 w q v (l ++ enc s.length ++ s) w' := L
  rw [e] at L
  exact ⟨rfl, h.laid L⟩
theorem newW (w : World) : Calls Try.prog 26 #[] w fun e w' => ∃ p, e = .returned (.pointer (some ⟨p, 0, none⟩)) ∧ IsW 91 5 w' p (.slice none 0 0) [] ∧ Kept [] w w' ∧ w.heap.size ≤ p := by
  refine (new_w w).mono ?_
  rintro e w' ⟨rfl, rfl⟩
  exact ⟨_, rfl, new_isW w, (Kept.refl [] w).alloc _, Nat.le_refl _⟩
end
theorem encTx_length (s : List UInt8) : (encTx s).length ≤ s.length + 9 := by
  have := enc_length s.length
  unfold encTx
  rw [List.length_append]
  omega
theorem encR_length {r : Rm} (h : OkR r) : (encR r).length ≤ 125 := by
  have h1 := (isKey_iff _).1 h.ac
  have h2 := h.nm
  have h3 := encTx_length r.ac
  have h4 := encTx_length r.nm
  have h5 := enc_length (fold r.due)
  have h6 := enc_length (fold r.per)
  have h7 := enc_length (fold r.kind)
  unfold encR
  simp only [List.length_append]
  omega
theorem encRs_length : ∀ {Q : List Rm}, (∀ r ∈ Q, OkR r) → (Q.flatMap encR).length ≤ Q.length * 125
  | [], _ => by simp
  | r :: Q, h => by
    have := encR_length (h r (by simp))
    have := encRs_length (Q := Q) fun x hx => h x (by simp [hx])
    simp only [List.flatMap_cons, List.length_append, List.length_cons]
    omega
theorem encRs_take {Q : List Rm} {j : Nat} {y : Rm} (h : Q[j]? = some y) : (Q.take (j + 1)).flatMap encR = (Q.take j).flatMap encR ++ encR y := by
  rw [List.take_add_one, h]
  simp
section
variable {w : World} {p : Nat} {Q : List Rm}
theorem encode12_nil : Calls Try.prog 12 #[.pointer none] w fun e w' => e = .returned (.slice none 0 0) ∧ w = w' := by
  go_enter Try.func12, Try.ntmps12
  go_wp2_with fail
  go_ret
  exact ⟨rfl, rfl⟩
set_option maxHeartbeats 2000000 in
theorem encode12 (hB : IsQ w p Q) (hQ : GoodQ Q) : Calls Try.prog 12 #[.pointer (some ⟨p, 0, none⟩)] w fun e w' => NewB w (encQ Q) e w' := by
  have HB := Hid.mk hB
  have HG := Hid.mk hQ
  have hln := hB.len
  have g0 : (0 : Int) ≤ (Q.length : Int) := by omega
  have g1 : (Q.length : Int) ≤ 64 := by omega
  have e1 := enc_length Q.length
  clear hB hQ
  generalize hn : Q.length = n at *
  have HN := Hid.mk hn
  clear hn
  go_enter Try.func12, Try.ntmps12
  go_wp2_with fail
  refine (newW _).mono ?_
  rintro e w2 ⟨q, rfl, hW2, k2, hq2⟩
  have W2 : Wq w w2 q (.slice none 0 0) [] := ⟨hW2, hq2, fresh_nil _ _, k2⟩
  have c2 := (HB.out.kept0 k2).count
  rw [HN.out] at c2
  have H3 := Hid.mk (wq_num W2 (n := n) (by unfold U64; omega) (by simp))
  clear W2 hW2 k2 hq2
  go_wp2_with fail
  refine H3.out.mono ?_
  rintro e w4 ⟨rfl, v4, W4, -⟩
  clear c2 H3
  rw [List.nil_append] at W4
  have c4 := (HB.out.kept0 W4.2.2.2).count
  rw [HN.out] at c4
  have HW4 := Hid.mk W4
  clear W4
  go_wp2_with fail
  go_quiet (fail)
  have HW5 := Hid.mk (HW4.out.kept0 ((Kept.refl [] w4).drewN nq))
  generalize w4.drewN nq = w5 at HW5 ⊢
  clear HW4 c4
  have hB1 : (enc n).length ≤ 9 := by omega
  generalize hB : enc n = B1 at *
  have HB1 := Hid.mk hB
  clear hB e1
  go_wp2_with fail
  go_loopw [25] (fun i wr => ∃ j : Nat, i = .int .i64 (j : Int) ∧ j ≤ n ∧ Hid (∃ v, Wq w wr q v (B1 ++ (Q.take j).flatMap encR))) (fun i _ => n - (intOf i).toNat)
  case atStart => exact ⟨0, rfl, by omega, Hid.mk ⟨v4, by simpa using HW5.out⟩⟩
  case round =>
    obtain ⟨j, rfl, hj, hH⟩ := hrel
    obtain ⟨v6, W6⟩ := hH.out
    have hBr := HB.out.kept0 W6.2.2.2
    have hlK := encRs_length (Q := Q.take j) (fun y hy => HG.out.ok y (List.mem_of_mem_take hy))
    rw [List.length_take] at hlK
    by_cases hlt : j < n
    · have hjI : (j : Int) < (n : Int) := by omega
      have hj0 : (0 : Int) ≤ (j : Int) := by omega
      obtain ⟨y, hy⟩ : ∃ y, Q[j]? = some y := ⟨_, List.getElem?_eq_getElem (by have := HN.out; omega)⟩
      obtain ⟨d0, d1, d2, d3, d4⟩ := hBr.at hy
      have hyk := HG.out.ok y (List.mem_of_getElem? hy)
      have hkl := (isKey_iff _).1 hyk.ac
      have hnl := hyk.nm
      have hI1 : I64 y.due := ⟨by have := hyk.due; omega, hyk.d64⟩
      have hI2 : I64 y.per := ⟨by have := hyk.per; omega, hyk.p64⟩
      have hI3 : I64 y.kind := hyk.k64
      obtain ⟨ac, nm, due, per, kind⟩ := y
      dsimp only at *
      obtain ⟨W7, e7, k7, hz7, hb7⟩ := box1 wr (.cells #[Sv ac, Sv nm, Iv due, Iv per, Iv kind] 27)
      have HE : Hid ((Q.take (j + 1)).flatMap encR = (Q.take j).flatMap encR ++ (encTx ac ++ (encTx nm ++ (enc (fold due) ++ (enc (fold per) ++ enc (fold kind)))))) := encRs_take hy
      generalize hX : (Q.take j).flatMap encR = X at *
      have hX1 : (B1 ++ X).length ≤ 8009 := by rw [List.length_append]; omega
      have HX := Hid.mk hX
      have t1 := encTx_length ac
      have t2 := encTx_length nm
      have t3 := enc_length (fold due)
      have t4 := enc_length (fold per)
      have H8 := Hid.mk (wq_text (W6.kept0 k7) ac (by omega) (by omega))
      have HB7 : Hid (wr.heap.size ∉ foot q v6) := (W6.kept0 k7).notin hb7 (by decide)
      have HBX := Hid.mk hb7
      have E7 := Hid.mk e7
      clear hH W6 hBr hy hyk k7 hz7 e7 hb7 hX
      go_wp2_with fail
      rw [E7.out]
      refine H8.out.mono ?_
      rintro e w8 ⟨rfl, v8, W8, k8⟩
      have hb8 := k8.keeps HBX.out HB7.out
      obtain ⟨-, c81, -⟩ := cells5 hb8
      have H9 := Hid.mk (wq_text W8 nm (by omega) (by rw [List.length_append]; omega))
      have HB8 : Hid (wr.heap.size ∉ foot q v8) := W8.notin hb8 (by decide)
      have HBX8 := Hid.mk hb8
      clear W8 k8 hb8 H8 HBX HB7 d0 d1 d2 d3 d4
      go_wp2_with fail
      refine H9.out.mono ?_
      rintro e w9 ⟨rfl, v9, W9, k9⟩
      have hb9 := k9.keeps HBX8.out HB8.out
      obtain ⟨-, -, c92, -⟩ := cells5 hb9
      have H10 := Hid.mk (wq_int W9 hI1 (by rw [List.length_append, List.length_append]; omega))
      have HB9 : Hid (wr.heap.size ∉ foot q v9) := W9.notin hb9 (by decide)
      have HBX9 := Hid.mk hb9
      clear W9 k9 hb9 H9 HBX8 HB8 c81
      go_wp2_with fail
      refine H10.out.mono ?_
      rintro e w10 ⟨rfl, v10, W10, k10⟩
      have hb10 := k10.keeps HBX9.out HB9.out
      obtain ⟨-, -, -, c103, -⟩ := cells5 hb10
      have H11 := Hid.mk (wq_int W10 hI2 (by rw [List.length_append, List.length_append, List.length_append]; omega))
      have HB10 : Hid (wr.heap.size ∉ foot q v10) := W10.notin hb10 (by decide)
      have HBX10 := Hid.mk hb10
      clear W10 k10 hb10 H10 HBX9 HB9 c92
      go_wp2_with fail
      refine H11.out.mono ?_
      rintro e w11 ⟨rfl, v11, W11, k11⟩
      have hb11 := k11.keeps HBX10.out HB10.out
      obtain ⟨-, -, -, -, c114⟩ := cells5 hb11
      have H12 := Hid.mk (wq_int W11 hI3 (by rw [List.length_append, List.length_append, List.length_append, List.length_append]; omega))
      clear W11 k11 hb11 H11 HBX10 HB10 c103
      go_wp2_with fail
      refine H12.out.mono ?_
      rintro e w12 ⟨rfl, v12, W12, -⟩
      have HW12 : Hid (∃ v, Wq w w12 q v (B1 ++ (Q.take (j + 1)).flatMap encR)) := ⟨v12, by rw [HE.out]; simpa [List.append_assoc] using W12⟩
      clear W12 H12 c114
      go_wp2_with fail
      go_roundw
      case rel => exact ⟨j + 1, by go_num, by omega, HW12⟩
      case measure => simp [intOf]; omega
    · obtain rfl : j = n := by omega
      have HBt := Hid.mk (wbytes_any q v6 _ wr W6.1 (by rw [List.length_append]; omega))
      have HKr := Hid.mk W6.2.2.2
      clear W6 hBr hH
      go_wp2_with fail
      refine HBt.out.mono ?_
      rintro e w13 ⟨v13, rfl, hO13, k13, hf13⟩
      go_wp2_with fail
      go_ret
      refine ⟨v13, rfl, ?_, HKr.out.trans k13 (by simp), fun g hg => ?_⟩
      · rw [List.take_of_length_le (by have := HN.out; omega), ← HB1.out] at hO13
        unfold encQ
        rw [HN.out]
        exact hO13
      · have := hf13 g hg
        have := HKr.out.size
        omega
end
end Go.Proofs.Ytelmppfacgdfbaa
