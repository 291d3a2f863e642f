/-
  The document's journal: State, Fold.
-/
import Derived.Test.YtbmpoboenhdnoaaRr
namespace Go.Proofs.Ytbmpoboenhdnoaa
set_option maxRecDepth 100000
open Go.RowKit
set_option linter.unusedVariables false
section
variable {w : World} {f : Nat} {v : Value} {j : Jn}
set_option maxHeartbeats 2000000 in
theorem rstate30 (h : IsF w f v j) (hr : RegJ j) (hl : j.ev.length ≤ 1000) : Calls Try.prog 30 #[.pointer (some ⟨f, 0, none⟩)] w fun e w' => e = .returned (.agg (BI (stJ j)).toArray) ∧ Kept [] w w' := by
  obtain ⟨a, c, rfl, hc1, hc2⟩ := h.form
  have hal := alloc29 w
  have hA0 := IsA.new w
  have k0 := (Kept.refl [] w).alloc (.cells (BI z8).toArray 29)
  have hs0 : (w.alloc (.cells (BI z8).toArray 29)).heap.size = w.heap.size + 1 := by simp
  generalize w.alloc (.cells (BI z8).toArray 29) = W0 at *
  have hb8 := h.b8
  have hld : (Instr.loadAt 29 (.pointer (some ⟨f, 0, none⟩))).run Try.prog W0 = .ok (.agg (BI j.base).toArray) W0 := run_loadAt_mid W0 f 0 29 _ _ (h.kept0 k0).rangeA Try.underlying29 rfl (by rw [BI_length, h.b8]; exact size29)
  have hal1 := alloc29 W0
  have hA1 := IsA.new W0
  have kA := (Kept.refl [] W0).alloc (.cells (BI z8).toArray 29)
  generalize W0.alloc (.cells (BI z8).toArray 29) = W1 at *
  obtain ⟨W2, hst, hA2, kS, hs2⟩ := hA1.store hb8
  have k02 : Kept [] w W2 := (k0.trans kA (by simp)).trans kS (by simp; omega)
  have hA02 : IsA W2 w.heap.size z8 := ⟨kS.keeps (kA.keeps hA0.box (by simp)) (by simp; omega), rfl⟩
  have HF := Hid.mk h
  have c8 := (h.kept0 k02).ev
  have hg : w.heap.size < W0.heap.size := by omega
  have HG := Hid.mk hg
  clear h hA0 k0 hs0 hA1 kA kS hs2 hg
  go_enter Try.func30, Try.ntmps30
  go_wp2_with (first | (refine wpList_alloc_run 29 rfl rfl _ _ hal ?_) | (refine wpList_load_run 29 (.tmp 7) rfl rfl _ rfl _ hld ?_) | (refine wpList_alloc_run 29 rfl rfl _ _ hal1 ?_) | (refine wpList_store_run 29 (.tmp 3) (.tmp 8) rfl rfl _ _ rfl rfl _ hst ?_))
  clear hal hld hal1 hst c8
  generalize W0.heap.size = g at *
  generalize hn : j.ev.length = n at *
  have HN := Hid.mk hn
  clear hn
  go_loopw [14] (fun i wr => ∃ k : Nat, i = .int .i64 (k : Int) ∧ k ≤ n ∧ Hid (IsA wr g (doA j.base (j.ev.take k)) ∧ IsA wr w.heap.size z8 ∧ Kept [] w wr)) (fun i _ => n - (intOf i).toNat)
  case atStart => exact ⟨0, rfl, by omega, Hid.mk ⟨hA2, hA02, k02⟩⟩
  case round =>
    obtain ⟨k, rfl, hk, H⟩ := hrel
    by_cases hlt : k < n
    · obtain ⟨y, hy⟩ : ∃ y, j.ev[k]? = some y := ⟨_, List.getElem?_eq_getElem (by have := HN.out; omega)⟩
      have hFr := HF.out.kept0 H.out.2.2
      have hy7 := hr y (List.mem_of_getElem? hy)
      obtain ⟨bb, o, rfl, d0, d1⟩ := rowE_at hFr.row (j := k) (y := ofE y) (by simp [hy])
      have hkI : (k : Int) < (n : Int) := by omega
      have hk0 : (0 : Int) ≤ (k : Int) := by omega
      obtain ⟨c0, hc0⟩ : ∃ c, (doA j.base (j.ev.take k))[y.r]? = some c := ⟨_, List.getElem?_eq_getElem (by rw [H.out.1.a8]; omega)⟩
      have x0 := H.out.1.cell hc0
      have f0 := H.out.1.free y.r
      have x0' : wr.drew.cell? ⟨g, y.r, none⟩ = some (Iv c0) := x0
      have f0' : wr.drew.frozen? ⟨g, y.r, none⟩ = false := f0
      have r0 : (0 : Int) ≤ (y.r : Int) := by omega
      have r1 : (y.r : Int) < 8 := by omega
      have ks : Kept [g] wr (wr.setCell ⟨g, y.r, none⟩ (Iv y.v)) := (Kept.refl [g] wr).setCell (p := ⟨g, y.r, none⟩) (.inl (by simp)) _
      have hgb : g ≠ bb := by
        have hbl := World.block_lt_of_cell? _ _ d0
        intro e
        obtain ⟨b1, o1, e1, q0, -⟩ := rowE_at HF.out.row (j := k) (y := ofE y) (by simp [hy])
        injection e1 with e1
        injection e1 with e1 _
        have := World.block_lt_of_cell? _ _ q0
        have := HG.out
        dsimp only at *
        omega
      have hgf : g ≠ f := by have := HF.out.lt; have := HG.out; omega
      have S0 : wr.drew.cell? ⟨f, 8, none⟩ = some (.slice (some ⟨bb, o, none⟩) n c) ∧ wr.drew.cell? ⟨bb, o + k * 2, none⟩ = some (Iv (y.r : Int)) ∧ wr.drew.cell? ⟨bb, o + k * 2 + 1, none⟩ = some (Iv y.v) := ⟨hFr.ev, d0, d1⟩
      have HQ : Hid ((wr.setCell ⟨g, y.r, none⟩ (Iv y.v)).drew.cell? ⟨f, 8, none⟩ = some (.slice (some ⟨bb, o, none⟩) n c) ∧ (wr.setCell ⟨g, y.r, none⟩ (Iv y.v)).drew.cell? ⟨bb, o + k * 2, none⟩ = some (Iv (y.r : Int)) ∧ (wr.setCell ⟨g, y.r, none⟩ (Iv y.v)).drew.cell? ⟨bb, o + k * 2 + 1, none⟩ = some (Iv y.v)) := by
        refine ⟨(ks.drew.cell (p := ⟨f, 8, none⟩) hFr.lt (by simpa using hgf.symm)).trans hFr.ev, ?_, ?_⟩
        · exact (ks.drew.cell (p := ⟨bb, o + k * 2, none⟩) (World.block_lt_of_cell? _ _ d0) (by simpa using hgb.symm)).trans d0
        · exact (ks.drew.cell (p := ⟨bb, o + k * 2 + 1, none⟩) (World.block_lt_of_cell? _ _ d1) (by simpa using hgb.symm)).trans d1
      have HR : Hid (IsA (wr.setCell ⟨g, y.r, none⟩ (Iv y.v)).drew g (doA j.base (j.ev.take (k + 1))) ∧ IsA (wr.setCell ⟨g, y.r, none⟩ (Iv y.v)).drew w.heap.size z8 ∧ Kept [] w (wr.setCell ⟨g, y.r, none⟩ (Iv y.v)).drew) := by
        rw [doA_take hy]
        exact ⟨(H.out.1.set (by omega) y.v).kept0 (Kept.refl [] _).drew, ⟨ks.drew.keeps H.out.2.1.box (by have := HG.out; simp; omega), rfl⟩, (H.out.2.2.trans ks (by have := HG.out; simp; omega)).drew⟩
      clear hA2 hA02 k02 hc0 hy H hFr ks d0 d1
      go_wp2_with fail
      go_region_held3 (fun V => V.cell? ⟨f, 8, none⟩ = some (.slice (some ⟨bb, o, none⟩) n c) ∧ V.cell? ⟨bb, o + k * 2, none⟩ = some (Iv (y.r : Int)) ∧ V.cell? ⟨bb, o + k * 2 + 1, none⟩ = some (Iv y.v)) (first | with_reducible exact S0 | exact HQ.out) (fail)
      clear S0 HQ x0 f0 x0' f0'
      go_wp2_with fail
      go_roundw
      case rel => exact ⟨k + 1, by go_num, by omega, HR⟩
      case measure => simp [intOf]; omega
    · obtain rfl : k = n := by omega
      have hA := H.out.1
      rw [List.take_of_length_le (by rw [HN.out]; exact Nat.le_refl _)] at hA
      have hld := hA.load
      obtain ⟨W4, hst, hA4, kS, -⟩ := H.out.2.1.store (B := doA j.base j.ev) hA.a8
      have HR : Hid (IsA W4 w.heap.size (doA j.base j.ev) ∧ Kept [] w W4) := ⟨hA4, H.out.2.2.trans kS (by simp)⟩
      clear hA2 hA02 k02 H hA kS hA4
      go_wp2_with (first | (refine wpList_load_run 29 (.tmp 3) rfl rfl _ rfl _ hld ?_) | (refine wpList_store_run 29 (.tmp 2) (.tmp 35) rfl rfl _ _ rfl rfl _ hst ?_))
      exact bodyPost_ret (result29 (u := 2) rfl _ _ w.heap.size _ rfl HR.out.1) rfl ⟨rfl, HR.out.2⟩
/-- How long the row of the journal at f is. -/
def lenAt (w : World) (f : Nat) : Nat := match w.cell? ⟨f, 8, none⟩ with
  | some (.slice _ n _) => n
  | _ => 0
theorem IsF.lenAt (h : IsF w f v j) : lenAt w f = j.ev.length := by
  obtain ⟨a, c, rfl, -⟩ := h.form
  unfold Ytbmpoboenhdnoaa.lenAt
  rw [h.ev]
set_option maxHeartbeats 2000000 in
theorem rfold17 (h : IsF w f v j) (hr : RegJ j) (hl : j.ev.length ≤ 800) : Calls Try.prog 17 #[.pointer (some ⟨f, 0, none⟩)] w fun e w' => e = .returned (Iv (j.ev.length : Int)) ∧ (∃ u, IsF w' f u (foldJ j) ∧ (Fresh w u ∨ u = v)) ∧ Kept [f] w w' := by
  obtain ⟨a, c, hv, hc1, hc2⟩ := h.form
  have c8 := h.ev
  rw [hv] at c8
  have HF := Hid.mk h
  have HV := Hid.mk hv
  have hfl := h.lt
  clear h hv
  generalize hn : j.ev.length = n at *
  have HN := Hid.mk hn
  clear hn
  go_enter Try.func17, Try.ntmps17
  go_wp2_with fail
  go_loopw [] (fun wr => ∃ k : Nat, k ≤ n ∧ Hid ((∃ u, IsF wr f u ⟨doA j.base (j.ev.take k), j.ev.drop k, j.ver⟩ ∧ (Fresh w u ∨ u = v)) ∧ Kept [f] w wr)) (fun wr => lenAt wr f)
  case atStart => exact ⟨0, by omega, Hid.mk ⟨⟨v, HF.out, .inr rfl⟩, Kept.refl _ _⟩⟩
  case round =>
    obtain ⟨k, hk, H⟩ := hrel
    obtain ⟨⟨u, hFr, hu⟩, kk⟩ := H.out
    have hlen := hFr.lenAt
    obtain ⟨a', c', rfl, q1, q2⟩ := hFr.form
    have hdl : (j.ev.drop k).length = n - k := by rw [List.length_drop, HN.out]
    dsimp only at *
    rw [hdl] at hFr q1 hlen hu
    have e8 := hFr.ev
    by_cases hlt : k < n
    · obtain ⟨y, t, hyt⟩ : ∃ y t, j.ev.drop k = y :: t := ⟨_, _, List.drop_eq_getElem_cons (by have := HN.out; omega)⟩
      have hget : j.ev[k]? = some y := by
        have := congrArg (·[0]?) hyt
        simpa using this
      have ht : t = j.ev.drop (k + 1) := by
        have := congrArg List.tail hyt
        rw [List.tail_drop] at this
        simpa using this.symm
      have hy7 := hr y (List.mem_of_getElem? hget)
      have htl : t.length + 1 = n - k := by rw [← hdl, hyt]; rfl
      rw [hyt] at hFr
      have HD := Hid.mk (drop29 hFr hy7 (by omega))
      have HE : Hid (doE (doA j.base (j.ev.take k)) y = doA j.base (j.ev.take (k + 1))) := (doA_take hget).symm
      have HKK := Hid.mk kk
      have hm0 : (0 : Int) < ((n - k : Nat) : Int) := by omega
      have hm1 : 0 < n - k := by omega
      have HT := Hid.mk ht
      have HL := Hid.mk hlen
      have HTL := Hid.mk htl
      clear H hFr hyt hget hu kk ht hlen htl hdl q1
      generalize hmm : n - k = m at *
      have HM := Hid.mk hmm
      clear hmm
      go_wp2_with fail
      refine HD.out.mono ?_
      rintro e w3 ⟨rfl, ⟨u3, hF3, hu3⟩, k3⟩
      rw [HE.out] at hF3
      have HL3 := Hid.mk hF3.lenAt
      have HR : Hid ((∃ u, IsF w3 f u ⟨doA j.base (j.ev.take (k + 1)), j.ev.drop (k + 1), j.ver⟩ ∧ (Fresh w u ∨ u = v)) ∧ Kept [f] w w3) := by
        rw [← HT.out]
        exact ⟨⟨u3, hF3, .inl fun g hg => by have := hu3 g hg; have := HKK.out.size; omega⟩, HKK.out.trans k3 (by simp)⟩
      clear hF3 k3 hu3 e8 HD
      go_wp2_with fail
      go_roundw
      case rel => exact ⟨k + 1, by omega, HR⟩
      case measure => rw [HL.out, HL3.out]; have := HTL.out; omega
    · obtain rfl : k = n := by omega
      have HR : Hid ((∃ u, IsF wr f u (foldJ j) ∧ (Fresh w u ∨ u = v)) ∧ Kept [f] w wr) := by
        rw [List.take_of_length_le (by rw [HN.out]; exact Nat.le_refl _), List.drop_eq_nil_of_le (by rw [HN.out]; exact Nat.le_refl _)] at hFr
        exact ⟨⟨_, hFr, hu⟩, kk⟩
      have hkk : k - k = 0 := by omega
      rw [hkk] at e8
      clear H hFr hu kk hlen hdl q1 hkk
      go_wp2_with fail
      go_ret
      exact ⟨rfl, HR.out⟩
end
end Go.Proofs.Ytbmpoboenhdnoaa
