import Derived.Test.YtngnenbidpojeaaDoorW11
/-
  copyOut of an outbox.
-/
namespace Go.Proofs.YtngnenbidpojeaaDoor
set_option maxRecDepth 100000
open Go.RowKit
set_option linter.unusedVariables false
section
variable {w : World} {p : Nat} {own : List UInt8} {K : List La} {qs : List Yq}
set_option maxHeartbeats 400000 in
theorem copyOut62 (to : List UInt8) (x : Lt) (a : Option Addr) (c : Nat) (hx : ReadsJ w (.slice a x.args.length c) x.args) (ht : to.length ≤ 100000) (hs : x.fr.length ≤ 100000) (hl : x.args.length ≤ 100000) :
    Calls Tryd.prog 32 #[Yv to x a c] w fun e w' => ∃ a' c', e = .returned (Yv to x a' c') ∧ OwnsJ w' (.slice a' x.args.length c') x.args ∧ Kept [] w w' ∧ Fresh w (.slice a' x.args.length c') := by
  have HX := Hid.mk hx
  have HC1 : Hid (∀ W, Calls Tryd.prog 29 #[Sv to] W fun e w' => e = .returned (Sv to) ∧ Kept [] W w') := fun W => clone32 to (by omega)
  have HC2 : Hid (∀ W, Kept [] w W → Calls Tryd.prog 19 #[Lv x a c] W fun e w' => ∃ a' c', e = .returned (Lv x a' c') ∧ OwnsJ w' (.slice a' x.args.length c') x.args ∧ Kept [] W w' ∧ Fresh W (.slice a' x.args.length c')) := fun W k => copy17 x a c (HX.out.kept k (by simp)) hs hl
  clear hx ht hs hl
  go_enter Tryd.func32, Tryd.ntmps32
  go_wp2_with fail
  obtain ⟨W0, e0, k0, hz0, hb0, hb1⟩ := box2 w (.cells #[Sv to, Sv x.fr, .int .u64 (x.ser : Int), .int .i64 x.kind, .slice a x.args.length c] 91) (.cells #[.string { data := #[] }, .string { data := #[] }, .int .u64 0, .int .i64 0, .slice none 0 0] 91)
  rw [e0]
  clear e0
  have kd : Kept [] w W0.drew := k0.drew
  have HS : Hid (∀ W, Kept [] W0.drew W → W.cell? ⟨w.heap.size, 0, none⟩ = some (Sv to) ∧ W.cell? ⟨w.heap.size, 1, none⟩ = some (Sv x.fr) ∧ W.cell? ⟨w.heap.size, 2, none⟩ = some (.int .u64 (x.ser : Int)) ∧ W.cell? ⟨w.heap.size, 3, none⟩ = some (.int .i64 x.kind) ∧ W.cell? ⟨w.heap.size, 4, none⟩ = some (.slice a x.args.length c)) := fun W k => cells5 (k.keeps (w := W0.drew) hb0 (by simp))
  have HR : Hid (∀ W, Kept [] W0.drew W → (W.cell? ⟨w.heap.size + 1, 0, none⟩ = some (.string { data := #[] }) ∧ W.cell? ⟨w.heap.size + 1, 1, none⟩ = some (.string { data := #[] }) ∧ W.cell? ⟨w.heap.size + 1, 2, none⟩ = some (.int .u64 0) ∧ W.cell? ⟨w.heap.size + 1, 3, none⟩ = some (.int .i64 0) ∧ W.cell? ⟨w.heap.size + 1, 4, none⟩ = some (.slice none 0 0)) ∧ (W.frozen? ⟨w.heap.size + 1, 0, none⟩ = false ∧ W.frozen? ⟨w.heap.size + 1, 1, none⟩ = false ∧ W.frozen? ⟨w.heap.size + 1, 2, none⟩ = false ∧ W.frozen? ⟨w.heap.size + 1, 3, none⟩ = false ∧ W.frozen? ⟨w.heap.size + 1, 4, none⟩ = false)) := fun W k => ⟨cells5 (k.keeps (w := W0.drew) hb1 (by simp)), free5 (k.keeps (w := W0.drew) hb1 (by simp))⟩
  have HB1 : Hid (∀ W, Kept [] W0.drew W → W.heap[w.heap.size + 1]? = some (.cells #[.string { data := #[] }, .string { data := #[] }, .int .u64 0, .int .i64 0, .slice none 0 0] 91 (0, 0))) := fun W k => k.keeps (w := W0.drew) hb1 (by simp)
  have HP : Hid (∀ W a2 c2 V, Kept [] W0.drew W → V = ((((W.setCell ⟨w.heap.size + 1, 0, none⟩ (Sv to)).setCell ⟨w.heap.size + 1, 1, none⟩ (Sv x.fr)).setCell ⟨w.heap.size + 1, 2, none⟩ (.int .u64 (x.ser : Int))).setCell ⟨w.heap.size + 1, 3, none⟩ (.int .i64 x.kind)).setCell ⟨w.heap.size + 1, 4, none⟩ (.slice a2 x.args.length c2) → V.cell? ⟨w.heap.size, 0, none⟩ = some (Sv to) ∧ V.cell? ⟨w.heap.size, 1, none⟩ = some (Sv x.fr) ∧ V.cell? ⟨w.heap.size, 2, none⟩ = some (.int .u64 (x.ser : Int)) ∧ V.cell? ⟨w.heap.size, 3, none⟩ = some (.int .i64 x.kind) ∧ V.cell? ⟨w.heap.size, 4, none⟩ = some (.slice a x.args.length c)) := fun W a2 c2 V k e => by
    have := HS.out W k
    rw [e, put5_other _ _ _ _ _ _ _ (by simp), put5_other _ _ _ _ _ _ _ (by simp), put5_other _ _ _ _ _ _ _ (by simp), put5_other _ _ _ _ _ _ _ (by simp), put5_other _ _ _ _ _ _ _ (by simp)]
    exact this
  have S0 := HS.out _ (Kept.refl [] _)
  have HKD := Hid.mk kd
  clear hb0 hb1 k0 hz0 kd
  go_region_held3 (fun W => W.cell? ⟨w.heap.size, 0, none⟩ = some (Sv to) ∧ W.cell? ⟨w.heap.size, 1, none⟩ = some (Sv x.fr) ∧ W.cell? ⟨w.heap.size, 2, none⟩ = some (.int .u64 (x.ser : Int)) ∧ W.cell? ⟨w.heap.size, 3, none⟩ = some (.int .i64 x.kind) ∧ W.cell? ⟨w.heap.size, 4, none⟩ = some (.slice a x.args.length c)) (first | with_reducible exact S0 | with_reducible exact S1 | with_reducible exact S2 | exact HP.out _ _ _ _ kk2 rfl) (first | (go_at_call 19; refine (HC2.out _ (HKD.out.trans kk1 (by simp))).mono ?_; rintro e w2 ⟨a2, c2, rfl, hO2, k2, hf2⟩; have kk2 := kk1.trans k2 (by simp); have S2 := HS.out _ kk2; obtain ⟨⟨j0, j1, j2, j3, j4⟩, f0, f1, f2, f3, f4⟩ := HR.out _ kk2) | (go_at_call 29; refine (HC1.out _).mono ?_; rintro e w1 ⟨rfl, k1⟩; have kk1 := k1; have S1 := HS.out _ kk1))
  obtain ⟨W5, e5, k5, h5, -⟩ := put5 (HB1.out _ kk2) (Sv to) (Sv x.fr) (.int .u64 (x.ser : Int)) (.int .i64 x.kind) (.slice a2 x.args.length c2)
  rw [e5]
  go_wp2_with fail
  refine bodyPost_ret (results_cell_row (p := 2) (ty := 91) rfl _ _ (w.heap.size + 1) 91 _ (0, 0) _ rfl h5 Tryd.underlying91 rfl (by kernel_rfl)) rfl ?_
  have kw2 := HKD.out.trans kk2 (by simp)
  refine ⟨a2, c2, rfl, hO2.kept k5 (fun g hg hm => ?_), kw2.trans k5 (by simp), fun g hg => ?_⟩
  · simp at hm
    subst hm
    exact ownsJ_ne hO2 (HB1.out _ kk2) (by decide) hg
  · have := hf2 g hg
    have := (HKD.out.trans kk1 (by simp)).size
    omega
end
end Go.Proofs.YtngnenbidpojeaaDoor
/-
  New, push and next of an outbox.
-/
namespace Go.Proofs.YtngnenbidpojeaaDoor
set_option maxRecDepth 100000
open Go.RowKit
set_option linter.unusedVariables false
section
variable {w : World} {p : Nat} {own : List UInt8} {K : List La} {qs : List Yq}
theorem zeroC63 (own : List UInt8) : Tryd.zeroCells94.setIfInBounds 0 (Sv own) = (zeroO own).toArray := by kernel_rfl
set_option maxHeartbeats 1000000 in
theorem new11_no (own : List UInt8) (h : isKey own = false) (hl : own.length ≤ 281474976710656) : Calls Tryd.prog 15 #[Sv own] w fun e w' => e = .returned (.tuple #[.pointer none, .int .i64 1]) ∧ w = w' := by
  have HK := Hid.mk (isKey26 (w := w) own hl)
  rw [h] at HK
  go_enter Tryd.func15, Tryd.ntmps15
  go_wp2_with fail
  refine HK.out.mono ?_
  rintro e w1 ⟨rfl, rfl⟩
  go_wp2_with fail
  go_ret2
  exact ⟨rfl, rfl⟩
set_option maxHeartbeats 1000000 in
theorem push60 (y : Yq) (hB : IsO w p own K qs) (hn : qs.length < 32) (hy : OwnsJ w y.q.sl y.q.x.args) : Calls Tryd.prog 31 #[.pointer (some ⟨p, 0, none⟩), Yv y.to y.q.x y.q.ad y.q.cap] w fun e w' => e = .returned (.tuple #[]) ∧ IsO w' p own K (qs ++ [y]) ∧ Kept [p] w w' := by
  have HB := Hid.mk hB
  have HY := Hid.mk hy
  have hpl := hB.lt
  clear hB hy
  go_enter Tryd.func31, Tryd.ntmps31
  go_wp2_with fail
  obtain ⟨W0, e0, k0, hz0, hb0⟩ := box1 w (.cells #[Sv y.to, Sv y.q.x.fr, .int .u64 (y.q.x.ser : Int), .int .i64 y.q.x.kind, .slice y.q.ad y.q.x.args.length y.q.cap] 91)
  rw [e0]
  clear e0
  have hB0 := HB.out.kept0 k0
  have kd := k0.drew
  have hBd : IsO W0.drew p own K qs := HB.out.kept0 kd
  obtain ⟨b0, b1, b2, b3, b4⟩ := cells5 (w := W0.drew) hb0
  have c0 := hBd.count
  have g0 : (0 : Int) ≤ (qs.length : Int) := by omega
  have g1 : (qs.length : Int) < 32 := by omega
  obtain ⟨d0, hd0⟩ := hB0.any (i := 130 + qs.length * 5) (by omega)
  obtain ⟨d1, hd1⟩ := hB0.any (i := 130 + qs.length * 5 + 1) (by omega)
  obtain ⟨d2, hd2⟩ := hB0.any (i := 130 + qs.length * 5 + 2) (by omega)
  obtain ⟨d3, hd3⟩ := hB0.any (i := 130 + qs.length * 5 + 3) (by omega)
  obtain ⟨d4, hd4⟩ := hB0.any (i := 130 + qs.length * 5 + 4) (by omega)
  have f0 := hB0.free (130 + qs.length * 5)
  have f1 := hB0.free (130 + qs.length * 5 + 1)
  have f2 := hB0.free (130 + qs.length * 5 + 2)
  have f3 := hB0.free (130 + qs.length * 5 + 3)
  have f4 := hB0.free (130 + qs.length * 5 + 4)
  have e0 : W0.drew.cell? ⟨p, 130 + qs.length * 5, none⟩ = some d0 := hd0
  have e1 : W0.drew.cell? ⟨p, 130 + qs.length * 5 + 1, none⟩ = some d1 := hd1
  have e2 : W0.drew.cell? ⟨p, 130 + qs.length * 5 + 2, none⟩ = some d2 := hd2
  have e3 : W0.drew.cell? ⟨p, 130 + qs.length * 5 + 3, none⟩ = some d3 := hd3
  have e4 : W0.drew.cell? ⟨p, 130 + qs.length * 5 + 4, none⟩ = some d4 := hd4
  have i0 : W0.drew.frozen? ⟨p, 130 + qs.length * 5, none⟩ = false := f0
  have i1 : W0.drew.frozen? ⟨p, 130 + qs.length * 5 + 1, none⟩ = false := f1
  have i2 : W0.drew.frozen? ⟨p, 130 + qs.length * 5 + 2, none⟩ = false := f2
  have i3 : W0.drew.frozen? ⟨p, 130 + qs.length * 5 + 3, none⟩ = false := f3
  have i4 : W0.drew.frozen? ⟨p, 130 + qs.length * 5 + 4, none⟩ = false := f4
  obtain ⟨cs, hbx, hcs⟩ := hB0.box
  obtain ⟨W5, e5, k5, h5, hz5⟩ := putY (o := 130 + qs.length * 5) hbx (Sv y.to) (Sv y.q.x.fr) (.int .u64 (y.q.x.ser : Int)) (.int .i64 y.q.x.kind) (.slice y.q.ad y.q.x.args.length y.q.cap)
  have HE5 := Hid.mk e5
  have hK := hB0.kn
  have hP := hcs.push hK hn y
  have h6 := set_list (k := 290) (x := .int .i64 ((qs.length + 1 : Nat) : Int)) h5
  have q5 : W5.cell? ⟨p, 290, none⟩ = some (.int .i64 (qs.length : Int)) := by
    refine IsO.cell h5 ?_
    rw [set5_ne _ _ _ _ _ _ _ _ (by omega)]
    exact hcs.yn
  have u5 : W5.frozen? ⟨p, 290, none⟩ = false := by simp [World.frozen?, h5]
  have k6 := k5.setCell (p := ⟨p, 290, none⟩) (.inl (by simp)) (.int .i64 ((qs.length + 1 : Nat) : Int))
  have HR : Hid (IsO (W5.setCell ⟨p, 290, none⟩ (.int .i64 ((qs.length + 1 : Nat) : Int))).drew p own K (qs ++ [y]) ∧ Kept [p] w (W5.setCell ⟨p, 290, none⟩ (.int .i64 ((qs.length + 1 : Nat) : Int))).drew) := by
    refine ⟨⟨⟨_, h6, hP⟩, hK, by simp; omega, fun z hz => ?_⟩, ((k0.mono (by simp)).trans k6 (by simp)).drew⟩
    have : OwnsJ W0 z.q.sl z.q.x.args := by
      rcases List.mem_append.1 hz with h | h
      · exact hB0.args z h
      · simp at h; subst h; exact HY.out.kept k0 (by simp)
    exact this.kept k6.drew (fun g hg hm => by simp at hm; subst hm; exact ownsJ_ne this hbx (by decide) hg)
  have HQ : Hid (∀ V, V = ((((W0.setCell ⟨p, 130 + qs.length * 5, none⟩ (Sv y.to)).setCell ⟨p, 130 + qs.length * 5 + 1, none⟩ (Sv y.q.x.fr)).setCell ⟨p, 130 + qs.length * 5 + 2, none⟩ (.int .u64 (y.q.x.ser : Int))).setCell ⟨p, 130 + qs.length * 5 + 3, none⟩ (.int .i64 y.q.x.kind)).setCell ⟨p, 130 + qs.length * 5 + 4, none⟩ (.slice y.q.ad y.q.x.args.length y.q.cap) → V.drew.cell? ⟨p, 290, none⟩ = some (.int .i64 (qs.length : Int)) ∧ V.drew.cell? ⟨w.heap.size, 0, none⟩ = some (Sv y.to) ∧ V.drew.cell? ⟨w.heap.size, 1, none⟩ = some (Sv y.q.x.fr) ∧ V.drew.cell? ⟨w.heap.size, 2, none⟩ = some (.int .u64 (y.q.x.ser : Int)) ∧ V.drew.cell? ⟨w.heap.size, 3, none⟩ = some (.int .i64 y.q.x.kind) ∧ V.drew.cell? ⟨w.heap.size, 4, none⟩ = some (.slice y.q.ad y.q.x.args.length y.q.cap)) := fun V hV => by
    rw [HE5.out] at hV
    subst hV
    exact ⟨q5, cells5 (k5.keeps hb0 (by simp; omega))⟩
  clear hbx hcs h5 hP h6 k6 hK e5 hB0 hb0 kd hBd
  go_region_held3 (fun W => W.cell? ⟨p, 290, none⟩ = some (.int .i64 (qs.length : Int)) ∧ W.cell? ⟨w.heap.size, 0, none⟩ = some (Sv y.to) ∧ W.cell? ⟨w.heap.size, 1, none⟩ = some (Sv y.q.x.fr) ∧ W.cell? ⟨w.heap.size, 2, none⟩ = some (.int .u64 (y.q.x.ser : Int)) ∧ W.cell? ⟨w.heap.size, 3, none⟩ = some (.int .i64 y.q.x.kind) ∧ W.cell? ⟨w.heap.size, 4, none⟩ = some (.slice y.q.ad y.q.x.args.length y.q.cap)) (first | with_reducible exact ⟨c0, b0, b1, b2, b3, b4⟩ | exact HQ.out _ rfl) (fail)
  rw [HE5.out]
  clear e0 e1 e2 e3 e4 i0 i1 i2 i3 i4 hd0 hd1 hd2 hd3 hd4 f0 f1 f2 f3 f4 b0 b1 b2 b3 b4 c0 HQ HE5
  go_wp2_with fail
  go_end0
  exact ⟨rfl, HR.out⟩
set_option maxHeartbeats 1000000 in
theorem new11 (own : List UInt8) (h : isKey own = true) : Calls Tryd.prog 15 #[Sv own] w fun e w' => ∃ p, e = .returned (.tuple #[.pointer (some ⟨p, 0, none⟩), .int .i64 0]) ∧ IsO w' p own [] [] ∧ Kept [] w w' ∧ w.heap.size ≤ p := by
  have hl := (isKey_iff own).1 h
  have HK := Hid.mk (isKey26 (w := w) own (by omega))
  rw [h] at HK
  have HN : Hid (∀ W : World, IsO (W.alloc (.cells (zeroO own).toArray 94)) W.heap.size own [] []) := fun W => IsO.new own W
  have HC := Hid.mk (clone32 (w := w) own (by omega))
  clear h hl
  go_enter Tryd.func15, Tryd.ntmps15
  go_wp2_with fail
  refine HK.out.mono ?_
  rintro e w1 ⟨rfl, rfl⟩
  go_wp2_with fail
  refine HC.out.mono ?_
  rintro e w1 ⟨rfl, k1⟩
  go_wp2_with fail
  rw [zeroC63]
  go_ret2
  exact ⟨_, rfl, HN.out w1, k1.alloc _, k1.size⟩
end
end Go.Proofs.YtngnenbidpojeaaDoor
