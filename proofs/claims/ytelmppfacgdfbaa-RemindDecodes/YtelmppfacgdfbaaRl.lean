/-
  The document's queue: lay.
-/
import Derived.Test.YtelmppfacgdfbaaRr
namespace Go.Proofs.Ytelmppfacgdfbaa
set_option maxRecDepth 100000
open Go.RowKit Go.Shelf
set_option linter.unusedVariables false
section
variable {w : World} {f : Nat} {v : Value} {Q : List Rm}
theorem run_cutH {T e : TypeId} {k b : Nat} {z : Value} (R : RowT T e k b z) (W : World) (a : Option Addr) (n c j : Nat) (hj : j ≤ c) : (Instr.slice T (.slice a n c) none (some (.int .i64 (j : Int))) none).run Try.prog W = .ok (.slice (cutA a c 0 k) j c) W := by
  rw [run_slice_h W T a n c (by rw [R.elem]; exact R.under) .i64 j (by omega) (by omega), R.elem, R.size]
  simp [Result.andThen, sliced, cutA]
theorem run_cutL {T e : TypeId} {k b : Nat} {z : Value} (R : RowT T e k b z) (W : World) (a : Option Addr) (n c i : Nat) (hi : i ≤ n) : (Instr.slice T (.slice a n c) (some (.int .i64 (i : Int))) none none).run Try.prog W = .ok (.slice (cutA a c i k) (n - i) (c - i)) W := by
  rw [run_slice_l W T a n c (by rw [R.elem]; exact R.under) .i64 i (by omega) (by omega), R.elem, R.size]
  simp [Result.andThen, sliced, cutA]
set_option maxHeartbeats 1000000 in
theorem lay_tail {wq : World} {a : Option Addr} {n c P : Nat} (r : Rm) (hF : IsF wq f (.slice a n c) Q) (k : Kept [] w wq) (hf : f < w.heap.size) (hn : Q.length = n) (hnl : n ≤ 1000) (hP : P ≤ n) (hc1 : n ≤ c) :
    ∃ a1 c1 w1, (Builtin.append_ #[33, 33] 33 #[.slice none 0 0, .slice (cutA a c 0 5) P c]).run Try.prog wq = .ok (.slice a1 P c1) w1 ∧
    ∃ a2 c2 w2, (Builtin.append_ #[33, 33] 33 #[.slice a1 P c1, .slice (some ⟨w1.heap.size, 0, none⟩) 1 1]).run Try.prog (w1.alloc (.cells #[Sv r.ac, Sv r.nm, Iv r.due, Iv r.per, Iv r.kind] 52)) = .ok (.slice a2 (P + 1) c2) w2 ∧
    ∃ a3 c3 w3, (Builtin.append_ #[33, 33] 33 #[.slice a2 (P + 1) c2, .slice (cutA a c P 5) (n - P) (c - P)]).run Try.prog w2 = .ok (.slice a3 (P + 1 + (n - P)) c3) w3 ∧
    Kept [] wq w1 ∧ Kept [] wq w2 ∧ Kept [] wq w3 ∧ w3.frozen? ⟨f, 0, none⟩ = false ∧ (∃ u, IsF (w3.setCell ⟨f, 0, none⟩ (.slice a3 (P + 1 + (n - P)) c3)) f u (Q.take P ++ r :: Q.drop P) ∧ Fresh w u) ∧ Kept [f] w (w3.setCell ⟨f, 0, none⟩ (.slice a3 (P + 1 + (n - P)) c3)) := by
  have hr1 := ReadsR.cut (k := 5) (i := 0) (j := P) (m := c) (by rw [CR_length]; exact hn.symm) hF.row (by omega) hP (by omega) (Nat.le_refl _)
  rw [List.drop_zero, Nat.sub_zero, Nat.sub_zero] at hr1
  obtain ⟨a1, c1, w1, hrun1, hO1, hg1, hN1⟩ := run_appendR rt33 wq 33 (.slice none 0 0) [] (OwnsR.nil 52 5 wq) _ ((CR Q).take P) (fun x hx => CR_wide Q x (List.mem_of_mem_take hx)) hr1 (by rw [List.length_take, CR_length]; simp; omega)
  have ht : ((CR Q).take P).length = P := by rw [List.length_take, CR_length]; omega
  simp only [List.nil_append, List.length_nil, Nat.zero_add, ht] at hrun1 hO1 hN1
  have k1 : Kept [] wq w1 := (Kept.refl [] wq).grown hg1 (by simp [Value.ownBlock])
  have hf1 : Fresh wq (.slice a1 P c1) := fun g hg => by rcases hN1 g hg with h | h; simp [Value.ownBlock] at h; exact h
  obtain ⟨a2, c2, w2, hrun2, hO2, k2, hN2⟩ := append_rowR rt33 hO1 (cellsR r) rfl (fun x hx => by simp [cellsR] at hx; rcases hx with rfl | rfl | rfl | rfl | rfl <;> rfl) (by rw [ht]; omega) 52 (0, 0) 33
  rw [ht] at hrun2 hO2 hN2
  have hf2 : Fresh wq (.slice a2 (P + 1) c2) := fun g hg => by rcases hN2 g hg with h | h; exact hf1 g h; have := k1.size; omega
  have k02 : Kept [] wq w2 := k1.two k2 (fun x hx => by rw [Option.mem_toList] at hx; exact hf1 x hx)
  have hkr2 := hF.row.kept k02 (by simp)
  have hr2 := ReadsR.cut (k := 5) (i := P) (j := n) (m := c) (by rw [CR_length]; exact hn.symm) hkr2 hP (Nat.le_refl _) hc1 (Nat.le_refl _)
  rw [List.take_of_length_le (by rw [CR_length]; omega)] at hr2
  obtain ⟨a3, c3, w3, hrun3, hO3, hg3, hN3⟩ := run_appendR rt33 w2 33 _ _ hO2 _ ((CR Q).drop P) (fun x hx => CR_wide Q x (List.mem_of_mem_drop hx)) hr2 (by rw [List.length_append, ht, List.length_drop, CR_length, List.length_singleton]; omega)
  simp only [List.length_append, ht, List.length_singleton, List.length_drop, CR_length, hn] at hrun3 hO3 hN3
  have hf3 : Fresh wq (.slice a3 (P + 1 + (n - P)) c3) := fun g hg => by rcases hN3 g hg with h | h; exact hf2 g h; have := k02.size; omega
  have k03 : Kept [] wq w3 := (k02.grown hg3 (fun x hx => .inr (hf2 x hx)))
  have hF3 := hF.kept0 k03
  have hrows : (CR Q).take P ++ [cellsR r] ++ (CR Q).drop P = CR (Q.take P ++ r :: Q.drop P) := by
    simp [CR]
  rw [hrows] at hO3
  obtain ⟨hP4, kP4⟩ := hF3.put hO3
  exact ⟨a1, c1, w1, hrun1, a2, c2, w2, hrun2, a3, c3, w3, hrun3, k1, k02, k03, hF3.free, ⟨_, hP4, fun g hg => by have := hf3 g hg; have := k.size; omega⟩, ((k.trans k03 (by simp)).mono (by simp)).trans kP4 (by simp)⟩
set_option maxHeartbeats 2000000 in
theorem lay53 (hF : IsF w f v Q) (hl : Q.length ≤ 1000) (r : Rm) : Calls Try.prog 53 #[.pointer (some ⟨f, 0, none⟩), Rv r] w fun e w' => e = .returned (.tuple #[]) ∧ (∃ u, IsF w' f u (layR Q r) ∧ Fresh w u) ∧ Kept [f] w w' := by
  obtain ⟨a, c, rfl, hc1, hc2⟩ := rowR_form hF.row
  have hPle := plR_le Q r
  have hset := layR_eq Q r
  have HPL : Hid (∀ j y, Q[j]? = some y → j < plR Q r → LR y r) := fun j y h h' => plR_lt h h'
  have HPA : Hid (∀ y, Q[plR Q r]? = some y → ¬ LR y r) := fun y h => plR_at h
  generalize plR Q r = P at *
  have HLS : Hid (∀ x W, Calls Try.prog 44 #[Rv x, Rv r] W fun e w' => e = .returned (.bool (decide (LR x r))) ∧ Kept [] W w') := fun x W => less44 x r W
  have hfl := hF.lt
  have HFF := Hid.mk hF
  have HST := Hid.mk hset
  clear hF hset
  have hr : r = ⟨r.ac, r.nm, r.due, r.per, r.kind⟩ := rfl
  generalize r.ac = ac, r.nm = nm, r.due = due, r.per = per, r.kind = kind at hr
  subst hr
  generalize hn : Q.length = n at *
  have HN := Hid.mk hn
  clear hn
  go_enter Try.func53, Try.ntmps53
  go_wp2_with fail
  obtain ⟨W0, e0, k0, hz0, hb0⟩ := box1 w (.cells #[Sv ac, Sv nm, Iv due, Iv per, Iv kind] 52)
  rw [e0]
  clear e0
  have HBX : Hid (∀ W, Kept [] W0 W → W.cell? ⟨f, 0, none⟩ = some (.slice a n c) ∧ W.cell? ⟨w.heap.size, 0, none⟩ = some (Sv ac) ∧ W.cell? ⟨w.heap.size, 1, none⟩ = some (Sv nm) ∧ W.cell? ⟨w.heap.size, 2, none⟩ = some (Iv due) ∧ W.cell? ⟨w.heap.size, 3, none⟩ = some (Iv per) ∧ W.cell? ⟨w.heap.size, 4, none⟩ = some (Iv kind)) := fun W k => ⟨(HFF.out.kept0 (k0.trans k (by simp))).cell, cells5 (k.keeps hb0 (by simp))⟩
  have HFQ : Hid (∀ W, Kept [] W0 W → IsF W f (.slice a n c) Q) := fun W k => HFF.out.kept0 (k0.trans k (by simp))
  have HK0 := Hid.mk k0
  clear hb0 k0 hz0
  go_loopw [4] (fun i wr => ∃ j : Nat, Hid (Kept [] W0 wr) ∧ i = .int .i64 (j : Int) ∧ j ≤ P) (fun i _ => n - (intOf i).toNat)
  case atStart => exact ⟨0, Hid.mk (Kept.refl [] W0), rfl, by omega⟩
  case round =>
    obtain ⟨j, kk, rfl, hj⟩ := hrel
    by_cases hlt : j < P
    · obtain ⟨x, hx⟩ : ∃ x, Q[j]? = some x := ⟨_, List.getElem?_eq_getElem (by have := HN.out; omega)⟩
      obtain ⟨b, o, rfl, -⟩ := rowR_at (HFQ.out _ kk.out).row hx
      have hjn : j < n := by omega
      have hjI : (j : Int) < (n : Int) := by omega
      have hj0 : (0 : Int) ≤ (j : Int) := by omega
      have HS : Hid (∀ W, Kept [] wr W → (W.cell? ⟨b, o + j * 5, none⟩ = some (Sv x.ac) ∧ W.cell? ⟨b, o + j * 5 + 1, none⟩ = some (Sv x.nm) ∧ W.cell? ⟨b, o + j * 5 + 2, none⟩ = some (Iv x.due) ∧ W.cell? ⟨b, o + j * 5 + 3, none⟩ = some (Iv x.per) ∧ W.cell? ⟨b, o + j * 5 + 4, none⟩ = some (Iv x.kind)) ∧ W.cell? ⟨f, 0, none⟩ = some (.slice (some ⟨b, o, none⟩) n c) ∧ W.cell? ⟨w.heap.size, 0, none⟩ = some (Sv ac) ∧ W.cell? ⟨w.heap.size, 1, none⟩ = some (Sv nm) ∧ W.cell? ⟨w.heap.size, 2, none⟩ = some (Iv due) ∧ W.cell? ⟨w.heap.size, 3, none⟩ = some (Iv per) ∧ W.cell? ⟨w.heap.size, 4, none⟩ = some (Iv kind)) := fun W k => by
        obtain ⟨b', o', e, d⟩ := rowR_at (HFQ.out _ (kk.out.trans k (by simp))).row hx
        injection e with e
        injection e with e1 e2
        subst e1 e2
        exact ⟨d, HBX.out _ (kk.out.trans k (by simp))⟩
      have S0 := HS.out _ (Kept.refl [] wr).drew
      have hcc := HLS.out x wr.drew
      rw [decide_eq_true (HPL.out j x hx hlt)] at hcc
      have HC := Hid.mk hcc
      clear hx hcc
      go_wp2_with fail
      go_region_held3 (fun W => (W.cell? ⟨b, o + j * 5, none⟩ = some (Sv x.ac) ∧ W.cell? ⟨b, o + j * 5 + 1, none⟩ = some (Sv x.nm) ∧ W.cell? ⟨b, o + j * 5 + 2, none⟩ = some (Iv x.due) ∧ W.cell? ⟨b, o + j * 5 + 3, none⟩ = some (Iv x.per) ∧ W.cell? ⟨b, o + j * 5 + 4, none⟩ = some (Iv x.kind)) ∧ W.cell? ⟨f, 0, none⟩ = some (.slice (some ⟨b, o, none⟩) n c) ∧ W.cell? ⟨w.heap.size, 0, none⟩ = some (Sv ac) ∧ W.cell? ⟨w.heap.size, 1, none⟩ = some (Sv nm) ∧ W.cell? ⟨w.heap.size, 2, none⟩ = some (Iv due) ∧ W.cell? ⟨w.heap.size, 3, none⟩ = some (Iv per) ∧ W.cell? ⟨w.heap.size, 4, none⟩ = some (Iv kind)) (first | with_reducible exact S0 | with_reducible exact S1) (first | (go_at_call 44; refine HC.out.mono ?_; rintro e w' ⟨rfl, k1⟩; have S1 := HS.out _ ((Kept.refl [] wr).drew.trans k1 (by simp)); have HK := Hid.mk (kk.out.trans ((Kept.refl [] wr).drew.trans k1 (by simp)) (by simp)); clear k1))
      go_wp2_with fail
      go_roundw
      case rel => exact ⟨j + 1, HK, by go_num, by omega⟩
      case measure => simp [intOf]; omega
    · obtain rfl : j = P := by omega
      by_cases hjn : j < n
      · obtain ⟨x, hx⟩ : ∃ x, Q[j]? = some x := ⟨_, List.getElem?_eq_getElem (by have := HN.out; omega)⟩
        obtain ⟨b, o, rfl, -⟩ := rowR_at (HFQ.out _ kk.out).row hx
        have hjI : (j : Int) < (n : Int) := by omega
        have hj0 : (0 : Int) ≤ (j : Int) := by omega
        have HS : Hid (∀ W, Kept [] wr W → (W.cell? ⟨b, o + j * 5, none⟩ = some (Sv x.ac) ∧ W.cell? ⟨b, o + j * 5 + 1, none⟩ = some (Sv x.nm) ∧ W.cell? ⟨b, o + j * 5 + 2, none⟩ = some (Iv x.due) ∧ W.cell? ⟨b, o + j * 5 + 3, none⟩ = some (Iv x.per) ∧ W.cell? ⟨b, o + j * 5 + 4, none⟩ = some (Iv x.kind)) ∧ W.cell? ⟨f, 0, none⟩ = some (.slice (some ⟨b, o, none⟩) n c) ∧ W.cell? ⟨w.heap.size, 0, none⟩ = some (Sv ac) ∧ W.cell? ⟨w.heap.size, 1, none⟩ = some (Sv nm) ∧ W.cell? ⟨w.heap.size, 2, none⟩ = some (Iv due) ∧ W.cell? ⟨w.heap.size, 3, none⟩ = some (Iv per) ∧ W.cell? ⟨w.heap.size, 4, none⟩ = some (Iv kind)) := fun W k => by
          obtain ⟨b', o', e, d⟩ := rowR_at (HFQ.out _ (kk.out.trans k (by simp))).row hx
          injection e with e
          injection e with e1 e2
          subst e1 e2
          exact ⟨d, HBX.out _ (kk.out.trans k (by simp))⟩
        have S0 := HS.out _ (Kept.refl [] wr).drew
        have hcc := HLS.out x wr.drew
        rw [decide_eq_false (HPA.out x hx)] at hcc
        have HC := Hid.mk hcc
        clear hx hcc
        go_wp2_with fail
        go_region_held3 (fun W => (W.cell? ⟨b, o + j * 5, none⟩ = some (Sv x.ac) ∧ W.cell? ⟨b, o + j * 5 + 1, none⟩ = some (Sv x.nm) ∧ W.cell? ⟨b, o + j * 5 + 2, none⟩ = some (Iv x.due) ∧ W.cell? ⟨b, o + j * 5 + 3, none⟩ = some (Iv x.per) ∧ W.cell? ⟨b, o + j * 5 + 4, none⟩ = some (Iv x.kind)) ∧ W.cell? ⟨f, 0, none⟩ = some (.slice (some ⟨b, o, none⟩) n c) ∧ W.cell? ⟨w.heap.size, 0, none⟩ = some (Sv ac) ∧ W.cell? ⟨w.heap.size, 1, none⟩ = some (Sv nm) ∧ W.cell? ⟨w.heap.size, 2, none⟩ = some (Iv due) ∧ W.cell? ⟨w.heap.size, 3, none⟩ = some (Iv per) ∧ W.cell? ⟨w.heap.size, 4, none⟩ = some (Iv kind)) (first | with_reducible exact S0 | with_reducible exact S1) (first | (go_at_call 44; refine HC.out.mono ?_; rintro e wq ⟨rfl, k1⟩; have S1 := HS.out _ ((Kept.refl [] wr).drew.trans k1 (by simp)); have HK := Hid.mk (kk.out.trans ((Kept.refl [] wr).drew.trans k1 (by simp)) (by simp)); clear k1))
        clear S0 S1 HS
        obtain ⟨a1, c1, w1, hrun1, a2, c2, w2, hrun2, a3, c3, w3, hrun3, k1, k2, k3, fz, hR⟩ := lay_tail ⟨ac, nm, due, per, kind⟩ (HFQ.out _ HK.out) (HK0.out.trans HK.out (by simp)) hfl HN.out (by omega) hPle hc1
        have hcut1 := run_cutH rt33 wq (some ⟨b, o, none⟩) n c j (by omega)
        have hcut2 := run_cutL rt33 w2 (some ⟨b, o, none⟩) n c j hPle
        have y0 := (HBX.out _ HK.out).1
        obtain ⟨-, b0, b1, b2, b3, b4⟩ := HBX.out _ ((HK.out).trans k1 (by simp))
        have y2 := (HBX.out _ ((HK.out).trans k2 (by simp))).1
        have y3 := (HBX.out _ ((HK.out).trans k3 (by simp))).1
        have HRR := Hid.mk hR
        rw [← HST.out] at HRR
        have hIP : (j : Int) ≤ (c : Int) := by omega
        have hI0 : (0 : Int) ≤ (j : Int) := by omega
        have hIn : (j : Int) ≤ (n : Int) := by omega
        clear k1 k2 k3 hR
        go_wp2_with (first | (at_builtin; refine wpList_append_run 33 33 (.tmp 26) (.tmp 32) rfl (by rfl) _ _ rfl rfl _ _ hrun1 ?_) | (at_builtin; refine wpList_append_run 33 33 (.tmp 34) (.tmp 36) rfl (by rfl) _ _ rfl rfl _ _ hrun2 ?_) | (at_builtin; refine wpList_append_run 33 33 (.tmp 39) (.tmp 45) rfl (by rfl) _ _ rfl rfl _ _ hrun3 ?_))
        go_end0
        exact ⟨rfl, HRR.out⟩
      · have hjI : ((j : Int) < (n : Int)) = False := eq_false (by omega)
        obtain ⟨S0, -⟩ := HBX.out _ (kk.out.drew)
        go_wp2_with fail
        go_region
        have HK := Hid.mk kk.out.drew
        clear S0
        obtain ⟨a1, c1, w1, hrun1, a2, c2, w2, hrun2, a3, c3, w3, hrun3, k1, k2, k3, fz, hR⟩ := lay_tail ⟨ac, nm, due, per, kind⟩ (HFQ.out _ HK.out) (HK0.out.trans HK.out (by simp)) hfl HN.out (by omega) hPle hc1
        have hcut1 := run_cutH rt33 wr.drew a n c j (by omega)
        have hcut2 := run_cutL rt33 w2 a n c j hPle
        have y0 := (HBX.out _ HK.out).1
        obtain ⟨-, b0, b1, b2, b3, b4⟩ := HBX.out _ ((HK.out).trans k1 (by simp))
        have y2 := (HBX.out _ ((HK.out).trans k2 (by simp))).1
        have y3 := (HBX.out _ ((HK.out).trans k3 (by simp))).1
        have HRR := Hid.mk hR
        rw [← HST.out] at HRR
        have hIP : (j : Int) ≤ (c : Int) := by omega
        have hI0 : (0 : Int) ≤ (j : Int) := by omega
        have hIn : (j : Int) ≤ (n : Int) := by omega
        clear k1 k2 k3 hR
        go_wp2_with (first | (at_builtin; refine wpList_append_run 33 33 (.tmp 26) (.tmp 32) rfl (by rfl) _ _ rfl rfl _ _ hrun1 ?_) | (at_builtin; refine wpList_append_run 33 33 (.tmp 34) (.tmp 36) rfl (by rfl) _ _ rfl rfl _ _ hrun2 ?_) | (at_builtin; refine wpList_append_run 33 33 (.tmp 39) (.tmp 45) rfl (by rfl) _ _ rfl rfl _ _ hrun3 ?_))
        go_end0
        exact ⟨rfl, HRR.out⟩
end
end Go.Proofs.Ytelmppfacgdfbaa
