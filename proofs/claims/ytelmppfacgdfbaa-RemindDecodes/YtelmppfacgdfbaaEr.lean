/-
  The document's Encode of a queue.
-/
import Derived.Test.YtelmppfacgdfbaaEc
namespace Go.Proofs.Ytelmppfacgdfbaa
set_option maxRecDepth 100000
open Go.RowKit
set_option linter.unusedVariables false
/-- Bytes that were laid since w0. -/
def Bst (w0 w : World) (v : Value) (l : List UInt8) : Prop := Owns 5 w v l ∧ Fresh w0 v ∧ Kept [] w0 w
/-- As Bst, a reminder's box beside it. -/
structure BstX (w0 w : World) (v : Value) (l : List UInt8) (BX : Nat) (ac nm : List UInt8) (due per kind : Int) : Prop where
  b : Bst w0 w v l
  box : w.heap[BX]? = some (.cells #[Sv ac, Sv nm, Iv due, Iv per, Iv kind] 52 (0, 0))
section
variable {w0 w w' : World} {v : Value} {l : List UInt8} {BX : Nat} {ac nm : List UInt8} {due per kind : Int}
theorem Bst.kept0 (h : Bst w0 w v l) (k : Kept [] w w') : Bst w0 w' v l := ⟨h.1.kept k (by simp), h.2.1, h.2.2.trans k (by simp)⟩
theorem Bst.grew {l' : List UInt8} {v' : Value} (h : Bst w0 w v l) (G : Grew 5 w v l' v' w') : Bst w0 w' v' l' := by
  obtain ⟨h1, h2, h3⟩ := h
  obtain ⟨i1, i2, i3⟩ := G
  refine ⟨i1, fun g hg => ?_, h3.trans i2 (fun x hx => by rw [Option.mem_toList] at hx; exact .inr (h2 x hx))⟩
  rcases i3 g hg with h | h
  · exact h2 g h
  · have := h3.size; omega
theorem BstX.cells (h : BstX w0 w v l BX ac nm due per kind) : w.cell? ⟨BX, 0, none⟩ = some (Sv ac) ∧ w.cell? ⟨BX, 1, none⟩ = some (Sv nm) ∧ w.cell? ⟨BX, 2, none⟩ = some (Iv due) ∧ w.cell? ⟨BX, 3, none⟩ = some (Iv per) ∧ w.cell? ⟨BX, 4, none⟩ = some (Iv kind) := cells5 h.box
theorem BstX.kept0 (h : BstX w0 w v l BX ac nm due per kind) (k : Kept [] w w') : BstX w0 w' v l BX ac nm due per kind := ⟨h.b.kept0 k, k.keeps h.box (by simp)⟩
theorem BstX.grew {l' : List UInt8} {v' : Value} (h : BstX w0 w v l BX ac nm due per kind) (G : Grew 5 w v l' v' w') : BstX w0 w' v' l' BX ac nm due per kind :=
  ⟨h.b.grew G, G.2.1.keeps h.box (by rw [Option.mem_toList]; exact owns_ne h.b.1 h.box (by decide))⟩
theorem bst_num (h : Bst w0 w v l) {n : Nat} (hn : U64 n) (hb : l.length ≤ 1000000) : Calls Try.prog 31 #[v, Uv n] w fun e w' => ∃ v', e = .returned v' ∧ Bst w0 w' v' (l ++ enc n) := by
  refine (refnum_any v l n w h.1 hn (by omega)).mono ?_
  rintro e w' ⟨v', rfl, G⟩
  exact ⟨v', rfl, h.grew G⟩
theorem bstx_int (h : BstX w0 w v l BX ac nm due per kind) {z : Int} (hz : I64 z) (hb : l.length ≤ 1000000) : Calls Try.prog 33 #[v, Iv z] w fun e w' => ∃ v', e = .returned v' ∧ BstX w0 w' v' (l ++ enc (fold z)) BX ac nm due per kind := by
  refine (refint_any v l z w h.b.1 hz.1 hz.2 (by omega)).mono ?_
  rintro e w' ⟨v', rfl, G⟩
  exact ⟨v', rfl, h.grew G⟩
theorem bstx_text (h : BstX w0 w v l BX ac nm due per kind) (s : List UInt8) (hs : s.length ≤ 1000000) (hb : l.length ≤ 1000000) : Calls Try.prog 32 #[v, Sv s] w fun e w' => ∃ v', e = .returned v' ∧ BstX w0 w' v' (l ++ encTx s) BX ac nm due per kind := by
  have hz : (⟨s.toArray⟩ : ByteArray).size = s.length := by simp [ByteArray.size]
  refine (reftext_any v l ⟨s.toArray⟩ w h.b.1 (by rw [hz]; omega)).mono ?_
  rintro e w' ⟨v', rfl, G⟩
  rw [hz] at G
  have e : l ++ enc s.length ++ s = l ++ encTx s := by unfold encTx; rw [List.append_assoc]
  have G : Grew 5 w v (l ++ enc s.length ++ s) v' w' := G
  rw [e] at G
  exact ⟨v', rfl, h.grew G⟩
end
section
variable {w : World} {f : Nat} {Q : List Rm}
set_option maxHeartbeats 2000000 in
theorem rencode13 (hH : HasF w f Q) (hQ : GoodQ Q) : Calls Try.prog 13 #[.pointer (some ⟨f, 0, none⟩)] w fun e w' => NewB w (encQ Q) e w' := by
  obtain ⟨v, hF⟩ := hH
  obtain ⟨a, c, rfl, hc1, hc2⟩ := rowR_form hF.row
  have HF := Hid.mk hF
  have HG := Hid.mk hQ
  have hln := hQ.len
  have g0 : (0 : Int) ≤ (Q.length : Int) := by omega
  have e1 := enc_length Q.length
  clear hF hQ
  generalize hn : Q.length = n at *
  have HN := Hid.mk hn
  clear hn
  have HC : Hid (∀ W, Kept [] w W → W.cell? ⟨f, 0, none⟩ = some (.slice a n c)) := fun W k => (HF.out.kept0 k).cell
  have x0 := HC.out _ (Kept.refl [] w)
  have H3 := Hid.mk (bst_num (w0 := w) (w := w) (v := .slice none 0 0) (l := []) ⟨Owns.nil 5 w, fresh_nil _ _, Kept.refl [] w⟩ (n := n) (by unfold U64; omega) (by simp))
  go_enter Try.func13, Try.ntmps13
  go_wp2_with fail
  refine H3.out.mono ?_
  rintro e w3 ⟨v3, rfl, W3⟩
  clear H3 x0
  rw [List.nil_append] at W3
  have x0 := HC.out _ W3.2.2
  have HW5 := Hid.mk W3
  clear W3
  have hB1 : (enc n).length ≤ 9 := by omega
  generalize hB : enc n = B1 at *
  have HB1 := Hid.mk hB
  clear hB e1
  go_wp2_with fail
  clear x0
  go_loopw [3, 18] (fun b i wr => ∃ j : Nat, i = .int .i64 (j : Int) ∧ j ≤ n ∧ Hid (Bst w wr b (B1 ++ (Q.take j).flatMap encR))) (fun _ i _ => n - (intOf i).toNat)
  case atStart => exact ⟨0, rfl, by omega, Hid.mk (by simpa using HW5.out)⟩
  case round =>
    obtain ⟨j, rfl, hj, hH⟩ := hrel
    have W6 := hH.out
    have hFr := HF.out.kept0 W6.2.2
    have hlK := encRs_length (Q := Q.take j) (fun y hy => HG.out.ok y (List.mem_of_mem_take hy))
    rw [List.length_take] at hlK
    have x0 := HC.out _ W6.2.2
    by_cases hlt : j < n
    · have hjI : (j : Int) < (n : Int) := by omega
      have hj0 : (0 : Int) ≤ (j : Int) := by omega
      obtain ⟨y, hy⟩ : ∃ y, Q[j]? = some y := ⟨_, List.getElem?_eq_getElem (by have := HN.out; omega)⟩
      obtain ⟨b, o, rfl, d0, d1, d2, d3, d4⟩ := rowR_at hFr.row hy
      have hyk := HG.out.ok y (List.mem_of_getElem? hy)
      have hkl := (isKey_iff _).1 hyk.ac
      have hnl := hyk.nm
      have hI1 : I64 y.due := ⟨by have := hyk.due; omega, hyk.d64⟩
      have hI2 : I64 y.per := ⟨by have := hyk.per; omega, hyk.p64⟩
      have hI3 : I64 y.kind := hyk.k64
      obtain ⟨ac, nm, due, per, kind⟩ := y
      dsimp only at *
      obtain ⟨W7, e7, k7, hz7, hb7⟩ := box1 wr (.cells #[Sv ac, Sv nm, Iv due, Iv per, Iv kind] 52)
      obtain ⟨BX, hBX⟩ : ∃ BX, wr.heap.size = BX := ⟨_, rfl⟩
      rw [hBX] at hb7
      have HE : Hid ((Q.take (j + 1)).flatMap encR = (Q.take j).flatMap encR ++ (encTx ac ++ (encTx nm ++ (enc (fold due) ++ (enc (fold per) ++ enc (fold kind)))))) := encRs_take hy
      generalize hX : (Q.take j).flatMap encR = X at *
      have hX1 : (B1 ++ X).length ≤ 8009 := by rw [List.length_append]; omega
      have t1 := encTx_length ac
      have t2 := encTx_length nm
      have t3 := enc_length (fold due)
      have t4 := enc_length (fold per)
      have T0 : Hid (BstX w W7.drew u3 (B1 ++ X) BX ac nm due per kind) := ⟨(W6.kept0 k7).kept0 (Kept.refl [] W7).drew, hb7⟩
      have HC1 : Hid (∀ W v, BstX w W v (B1 ++ X) BX ac nm due per kind → Calls Try.prog 32 #[v, Sv ac] W fun e w' => ∃ v', e = .returned v' ∧ BstX w w' v' (B1 ++ X ++ encTx ac) BX ac nm due per kind) := fun W v h => bstx_text h ac (by omega) (by omega)
      have HC2 : Hid (∀ W v, BstX w W v (B1 ++ X ++ encTx ac) BX ac nm due per kind → Calls Try.prog 32 #[v, Sv nm] W fun e w' => ∃ v', e = .returned v' ∧ BstX w w' v' (B1 ++ X ++ encTx ac ++ encTx nm) BX ac nm due per kind) := fun W v h => bstx_text h nm (by omega) (by rw [List.length_append]; omega)
      have HC3 : Hid (∀ W v, BstX w W v (B1 ++ X ++ encTx ac ++ encTx nm) BX ac nm due per kind → Calls Try.prog 33 #[v, Iv due] W fun e w' => ∃ v', e = .returned v' ∧ BstX w w' v' (B1 ++ X ++ encTx ac ++ encTx nm ++ enc (fold due)) BX ac nm due per kind) := fun W v h => bstx_int h hI1 (by rw [List.length_append, List.length_append]; omega)
      have HC4 : Hid (∀ W v, BstX w W v (B1 ++ X ++ encTx ac ++ encTx nm ++ enc (fold due)) BX ac nm due per kind → Calls Try.prog 33 #[v, Iv per] W fun e w' => ∃ v', e = .returned v' ∧ BstX w w' v' (B1 ++ X ++ encTx ac ++ encTx nm ++ enc (fold due) ++ enc (fold per)) BX ac nm due per kind) := fun W v h => bstx_int h hI2 (by rw [List.length_append, List.length_append, List.length_append]; omega)
      have HC5 : Hid (∀ W v, BstX w W v (B1 ++ X ++ encTx ac ++ encTx nm ++ enc (fold due) ++ enc (fold per)) BX ac nm due per kind → Calls Try.prog 33 #[v, Iv kind] W fun e w' => ∃ v', e = .returned v' ∧ BstX w w' v' (B1 ++ X ++ encTx ac ++ encTx nm ++ enc (fold due) ++ enc (fold per) ++ enc (fold kind)) BX ac nm due per kind) := fun W v h => bstx_int h hI3 (by rw [List.length_append, List.length_append, List.length_append, List.length_append]; omega)
      have E7 := Hid.mk e7
      have EB := Hid.mk hBX
      have S0 := T0.out.cells
      clear hH W6 hFr hy hyk k7 hz7 e7 hb7 hX hBX
      go_wp2_with fail
      rw [E7.out, EB.out]
      clear x0 d0 d1 d2 d3 d4
      go_region_held3 (fun W => W.cell? ⟨BX, 0, none⟩ = some (Sv ac) ∧ W.cell? ⟨BX, 1, none⟩ = some (Sv nm) ∧ W.cell? ⟨BX, 2, none⟩ = some (Iv due) ∧ W.cell? ⟨BX, 3, none⟩ = some (Iv per) ∧ W.cell? ⟨BX, 4, none⟩ = some (Iv kind)) (first | with_reducible exact S0 | with_reducible exact S1 | with_reducible exact S2) (first | (go_at_call 32; refine (HC2.out _ _ T1.out).mono ?_; rintro e w2 ⟨v2, rfl, t⟩; have T2 := Hid.mk t; have S2 := t.cells; clear t) | (go_at_call 32; refine (HC1.out _ _ T0.out).mono ?_; rintro e w1 ⟨v1, rfl, t⟩; have T1 := Hid.mk t; have S1 := t.cells; clear t))
      have T2d : Hid (BstX w w2.drew v2 (B1 ++ X ++ encTx ac ++ encTx nm) BX ac nm due per kind) := T2.out.kept0 (Kept.refl [] w2).drew
      clear S0 S1 S2
      have S0 := T2d.out.cells
      go_wp2_with fail
      go_region_held3 (fun W => W.cell? ⟨BX, 0, none⟩ = some (Sv ac) ∧ W.cell? ⟨BX, 1, none⟩ = some (Sv nm) ∧ W.cell? ⟨BX, 2, none⟩ = some (Iv due) ∧ W.cell? ⟨BX, 3, none⟩ = some (Iv per) ∧ W.cell? ⟨BX, 4, none⟩ = some (Iv kind)) (first | with_reducible exact S0 | with_reducible exact S3 | with_reducible exact S4 | with_reducible exact S5) (first | (go_at_call 33; refine (HC5.out _ _ T4.out).mono ?_; rintro e w5 ⟨v5, rfl, t⟩; have T5 := Hid.mk t; have S5 := t.cells; clear t) | (go_at_call 33; refine (HC4.out _ _ T3.out).mono ?_; rintro e w4 ⟨v4, rfl, t⟩; have T4 := Hid.mk t; have S4 := t.cells; clear t) | (go_at_call 33; refine (HC3.out _ _ T2d.out).mono ?_; rintro e w3 ⟨v3, rfl, t⟩; have T3 := Hid.mk t; have S3 := t.cells; clear t))
      have HW12 : Hid (Bst w w5 v5 (B1 ++ (Q.take (j + 1)).flatMap encR)) := Hid.mk (by rw [HE.out]; simpa [List.append_assoc] using T5.out.b)
      clear S0 S3 S4 S5
      go_wp2_with fail
      go_roundw
      case rel => exact ⟨j + 1, by go_num, by omega, HW12⟩
      case measure => simp [intOf]; omega
    · obtain rfl : j = n := by omega
      have HW := Hid.mk W6
      clear W6 hFr hH
      go_wp2_with fail
      go_ret
      have W6 := HW.out
      rw [List.take_of_length_le (by have := HN.out; omega), ← HB1.out] at W6
      refine ⟨_, rfl, ?_, W6.2.2, W6.2.1⟩
      unfold encQ
      rw [HN.out]
      exact W6.1
end
end Go.Proofs.Ytelmppfacgdfbaa
