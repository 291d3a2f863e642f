/-
  partIn: the part that lies in a block.
-/
import Derived.Test.YtdcjaopmfccgbaaPBlk
import Derived.Laws.Rows
namespace Go.Proofs.Ytdcjaopmfccgbaa
open Go.RowKit
set_option linter.unusedVariables false

theorem size70 : (Try.prog.info? 70).map (·.size) = some 3 := by kernel_rfl
theorem heap3_set {w : World} {b : Nat} {x0 x1 x2 : Value} {t : TypeId} (h : w.heap[b]? = some (.cells #[x0, x1, x2] t (0, 0))) (y0 y1 y2 : Value) : (((w.setCell ⟨b, 0, none⟩ y0).setCell ⟨b, 1, none⟩ y1).setCell ⟨b, 2, none⟩ y2).heap[b]? = some (.cells #[y0, y1, y2] t (0, 0)) := by
  rw [heap_setCell_same _ b 2 _ t _ (heap_setCell_same _ b 1 _ t _ (heap_setCell_same w b 0 _ t _ h))]
  rfl
theorem Boxed.set {w : World} {b e : Nat} {la : Bool} {v : Value} (h : Boxed w b e la v) (e' : Nat) (la' : Bool) (v' : Value) : Boxed (((w.setCell ⟨b, 0, none⟩ (.int .u64 (e' : Int))).setCell ⟨b, 1, none⟩ (.bool la')).setCell ⟨b, 2, none⟩ v') b e' la' v' ∧ Kept [b] w (((w.setCell ⟨b, 0, none⟩ (.int .u64 (e' : Int))).setCell ⟨b, 1, none⟩ (.bool la')).setCell ⟨b, 2, none⟩ v') :=
  ⟨heap3_set h _ _ _, (((Kept.refl [b] w).setCell (.inl (by simp)) _).setCell (.inl (by simp)) _).setCell (.inl (by simp)) _⟩
theorem Boxed.set0 {w : World} {b e : Nat} {la : Bool} {v : Value} (h : Boxed w b e la v) (e' : Nat) : Boxed (w.setCell ⟨b, 0, none⟩ (.int .u64 (e' : Int))) b e' la v ∧ Kept [b] w (w.setCell ⟨b, 0, none⟩ (.int .u64 (e' : Int))) :=
  ⟨heap_setCell_same w b 0 _ 70 _ h, (Kept.refl [b] w).setCell (.inl (by simp)) _⟩
theorem Boxed.set1 {w : World} {b e : Nat} {la : Bool} {v : Value} (h : Boxed w b e la v) (la' : Bool) : Boxed (w.setCell ⟨b, 1, none⟩ (.bool la')) b e la' v ∧ Kept [b] w (w.setCell ⟨b, 1, none⟩ (.bool la')) :=
  ⟨heap_setCell_same w b 1 _ 70 _ h, (Kept.refl [b] w).setCell (.inl (by simp)) _⟩
theorem Boxed.set2 {w : World} {b e : Nat} {la : Bool} {v : Value} (h : Boxed w b e la v) (v' : Value) : Boxed (w.setCell ⟨b, 2, none⟩ v') b e la v' ∧ Kept [b] w (w.setCell ⟨b, 2, none⟩ v') :=
  ⟨heap_setCell_same w b 2 _ 70 _ h, (Kept.refl [b] w).setCell (.inl (by simp)) _⟩
/-- What partIn answers. -/
def PartAt (place : Nat) (B : List UInt8) (w : World) (e : Ending) (w' : World) : Prop :=
  ∃ v', e = .returned (.agg #[.int .u64 ((partOf place B).1 : Int), .bool (partOf place B).2.1, v']) ∧ Reads w' v' (partOf place B).2.2 ∧ Kept [] w w'

set_option maxRecDepth 100000 in
set_option maxHeartbeats 400000 in
theorem pin_no (place : Nat) (v : Value) (B : List UInt8) (w : World) (hp : place < 4294967296) (hr : Reads w v B) (hF : ¬ (Fits 2 place B ∧ 9 < (payloadOf B).length)) :
    Calls Try.prog 37 #[.int .u32 (place : Int), v] w fun e w' => PartAt place B w e w' := by
  have k0 := (Kept.refl [] w).alloc (.cells #[.int .u64 0, .bool false, .slice none 0 0] 70)
  have hb : Boxed (w.alloc (.cells #[.int .u64 0, .bool false, .slice none 0 0] 70)) w.heap.size 0 false (.slice none 0 0) := heap_alloc_new w _
  have hop : Calls Try.prog 41 #[.int .u8 2, .int .u32 (place : Int), v] (w.alloc (.cells #[.int .u64 0, .bool false, .slice none 0 0] 70)) fun e w' => Opened 2 place B (w.alloc (.cells #[.int .u64 0, .bool false, .slice none 0 0] 70)) e w' := open_any 2 place v B _ (by omega) (hr.kept k0 (by simp))
  have fin : ∀ w', Kept [] w w' → PartAt place B w (.returned (.agg #[.int .u64 ((0 : Nat) : Int), .bool false, .slice none 0 0])) w' := fun w' k => by
    have e : partOf place B = (0, false, []) := by unfold partOf; rw [if_neg hF]
    unfold PartAt
    rw [e]
    exact ⟨_, rfl, Reads.nil w', k⟩
  go_enter Try.func37, Try.ntmps37
  go_wp2_with fail
  generalize hw0 : w.alloc (.cells #[.int .u64 0, .bool false, .slice none 0 0] 70) = w0 at k0 hb hop
  generalize hbb : w.heap.size = b at hb
  clear hw0
  refine hop.mono ?_
  rintro e w1 ⟨v1, ok, p, rfl, hR1, k1, h1⟩
  have hb1 := hb.kept k1 (by simp)
  have kk := k0.trans k1 (by simp)
  obtain ⟨c0, c1, c2⟩ := hb1.cells
  have f0 := hb1.free 0
  have f1 := hb1.free 1
  have f2 := hb1.free 2
  obtain ⟨hb2, k2⟩ := hb1.set 0 false (.slice none 0 0)
  have kk2 := kk.trans k2 (fun x hx => .inr (by simp at hx; omega))
  clear hop k1 k2 kk
  unfold Boxed at hb1
  rcases h1 with ⟨rfl, hfits, rfl⟩ | ⟨rfl, _, rfl⟩
  · have hl : ¬ 9 < (payloadOf B).length := fun h => hF ⟨hfits, h⟩
    obtain ⟨a1, cp, rfl, _⟩ := hR1
    have hl2 : ((payloadOf B).length : Int) ≤ 9 := by omega
    generalize (payloadOf B).length = n at hl hl2
    clear hfits hF hr
    go_wp2_with fail
    refine bodyPost_ret (results_cell_row (P := Try.prog) (ty := 70) (p := 4) rfl _ _ b 70 _ (0, 0) _ rfl hb2 Try.underlying70 rfl size70) rfl ?_
    exact fin _ kk2
  · obtain ⟨a1, cp, rfl, _⟩ := hR1
    go_wp2_with fail
    refine bodyPost_ret (results_cell_row (P := Try.prog) (ty := 70) (p := 4) rfl _ _ b 70 _ (0, 0) _ rfl hb2 Try.underlying70 rfl size70) rfl ?_
    exact fin _ kk2

theorem slice_to8 (b o n c : Nat) (h : 8 ≤ c) (W : World) : (Instr.slice 35 (.slice (some ⟨b, o, none⟩) n c) none (some (.int .i64 8)) none).run Try.prog W = .ok (.slice (some ⟨b, o, none⟩) 8 c) W := by
  obtain ⟨i0, hi, hz0, hz1, hz2⟩ := info_parts inf5
  have ht' : Try.prog.underlying 35 = some (.slice (Try.prog.elem 35)) := by simp [Program.elem, Try.underlying35]
  have he : Try.prog.elem 35 = 5 := by simp [Program.elem, Try.underlying35]
  have hz : ∀ w, (Go.sizeOf 5).run Try.prog w = .ok 1 w := fun w => by simp [Go.sizeOf, typeInfo, hi, hz1]
  rw [run_slice_h W 35 _ _ _ ht' .i64 _ (by omega) (by omega), he, hz]
  have e2 : ¬ c = 0 := by omega
  simp [Result.andThen, sliced, e2, Addr.add]
theorem slice_from9 (b o n c : Nat) (h : 9 < c) (h2 : 9 ≤ n) (W : World) : (Instr.slice 35 (.slice (some ⟨b, o, none⟩) n c) (some (.int .i64 9)) none none).run Try.prog W = .ok (.slice (some ⟨b, o + 9, none⟩) (n - 9) (c - 9)) W := by
  obtain ⟨i0, hi, hz0, hz1, hz2⟩ := info_parts inf5
  have ht' : Try.prog.underlying 35 = some (.slice (Try.prog.elem 35)) := by simp [Program.elem, Try.underlying35]
  have he : Try.prog.elem 35 = 5 := by simp [Program.elem, Try.underlying35]
  have hz : ∀ w, (Go.sizeOf 5).run Try.prog w = .ok 1 w := fun w => by simp [Go.sizeOf, typeInfo, hi, hz1]
  rw [run_slice_l W 35 _ _ _ ht' .i64 _ (by omega) (by omega), he, hz]
  have e2 : ¬ c = 9 := by omega
  have e3 : (⟨b, o, none⟩ : Addr).add 9 = ⟨b, o + 9, none⟩ := by unfold Addr.add; split <;> simp_all
  simp [Result.andThen, sliced, e2, e3]

theorem Reads.from9 {w : World} {b o n c : Nat} {l : List UInt8} (h : Reads w (.slice (some ⟨b, o, none⟩) n c) l) (hn : 9 < n) : Reads w (.slice (some ⟨b, o + 9, none⟩) (n - 9) (c - 9)) (l.drop 9) := by
  obtain ⟨a, cap, hv, h2, h3, h4, h5⟩ := h
  injection hv with e1 e2 e3
  subst e1 e2 e3
  obtain ⟨b', o', hab, hc⟩ := h5 (by intro h; subst h; simp at hn)
  simp at hab
  obtain ⟨rfl, rfl⟩ := hab
  refine ⟨_, c - 9, by rw [List.length_drop], by rw [List.length_drop]; omega, by omega, by simp, fun _ => ⟨b, o + 9, rfl, fun j u hu => ?_⟩⟩
  rw [List.getElem?_drop] at hu
  have := hc (9 + j) u hu
  rw [Nat.add_assoc]
  exact this
theorem or_run (N U : Nat) (hU : U < 256) : bits .or .u64 (IntKind.u64.wrap ((N : Int) * 256)) (U : Int) = (((N * 256 + U) % 18446744073709551616 : Nat) : Int) := by
  have e : IntKind.u64.wrap ((N : Int) * 256) = ((2 ^ 8 * (N % 72057594037927936) : Nat) : Int) := by rw [IntKind.wrap_u64]; omega
  rw [e, u64_or_nat _ _ (by omega) (by omega), ← Nat.two_pow_add_eq_or_of_lt (i := 8) (by omega)]
  omega
set_option maxRecDepth 100000 in
set_option maxHeartbeats 400000 in
theorem pin_yes (place : Nat) (v : Value) (B : List UInt8) (w : World) (hp : place < 4294967296) (hr : Reads w v B) (hF : Fits 2 place B) (h9 : 9 < (payloadOf B).length) :
    Calls Try.prog 37 #[.int .u32 (place : Int), v] w fun e w' => PartAt place B w e w' := by
  have k0 := (Kept.refl [] w).alloc (.cells #[.int .u64 0, .bool false, .slice none 0 0] 70)
  have hb : Boxed (w.alloc (.cells #[.int .u64 0, .bool false, .slice none 0 0] 70)) w.heap.size 0 false (.slice none 0 0) := heap_alloc_new w _
  have hop : Calls Try.prog 41 #[.int .u8 2, .int .u32 (place : Int), v] (w.alloc (.cells #[.int .u64 0, .bool false, .slice none 0 0] 70)) fun e w' => Opened 2 place B (w.alloc (.cells #[.int .u64 0, .bool false, .slice none 0 0] 70)) e w' := open_any 2 place v B _ (by omega) (hr.kept k0 (by simp))
  have hpl : (payloadOf B).length ≤ 242 := by
    have := hF.2.1
    unfold payloadOf
    rw [List.length_take]
    omega
  have fin : ∀ v' w', Reads w' v' ((payloadOf B).drop 9) → Kept [] w w' → PartAt place B w (.returned (.agg #[.int .u64 ((unbe 0 ((payloadOf B).take 8) : Nat) : Int), .bool ((payloadOf B)[8]?.getD 0 == 1), v'])) w' := fun v' w' h k => by
    have e : partOf place B = bodyOf (payloadOf B) := by unfold partOf; rw [if_pos ⟨hF, h9⟩]
    unfold PartAt
    rw [e]
    exact ⟨_, rfl, h, k⟩
  generalize PartAt place B w = R at fin
  go_enter Try.func37, Try.ntmps37
  go_wp2_with fail
  generalize hw0 : w.alloc (.cells #[.int .u64 0, .bool false, .slice none 0 0] 70) = w0 at k0 hb hop
  generalize hbb : w.heap.size = b at hb
  clear hw0
  refine hop.mono ?_
  rintro e w1 ⟨v1, ok, p, rfl, hR1, k1, h1⟩
  have hb1 := hb.kept k1 (by simp)
  have kk := k0.trans k1 (by simp)
  clear hop k1
  rcases h1 with ⟨rfl, hfits, rfl⟩ | ⟨_, hfits, rfl⟩
  case inr => exact absurd hF hfits
  generalize payloadOf B = P at fin hR1 h9 hpl
  clear hfits hF
  rcases reads_cases hR1 with ⟨a, cap, rfl, rfl, _⟩ | ⟨pb, po, c, rfl, hc1, hc2, hc⟩
  · simp at h9
  have hx : ¬ (P.length : Int) ≤ 9 := by omega
  obtain ⟨n, hn⟩ : ∃ n, Hid (P.length = n) := ⟨_, rfl⟩
  rw [hn.out] at hR1 hx h9 hpl hc1 ⊢
  have s8 := slice_to8 pb po n c (by omega)
  have s9 := slice_from9 pb po n c (by omega) (by omega)
  have hlt1 := hb1.lt
  have k2 := (Kept.refl [] w1).alloc (.cells #[.int .u64 0, .bool false, .slice none 0 0] 70)
  have hd2 : Boxed (w1.alloc (.cells #[.int .u64 0, .bool false, .slice none 0 0] 70)) w1.heap.size 0 false (.slice none 0 0) := heap_alloc_new w1 _
  have hb2 := hb1.kept k2 (by simp)
  have hR2 := hR1.kept k2 (by simp)
  have kk2 := kk.trans k2 (by simp)
  go_wp2_with fail
  generalize w1.alloc (.cells #[.int .u64 0, .bool false, .slice none 0 0] 70) = w2 at k2 hd2 hb2 hR2 kk2
  have hpbd : pb ≠ w1.heap.size := by
    obtain ⟨u, hu⟩ : ∃ u, P[0]? = some u := ⟨P[0]'(by rw [hn.out]; omega), by simp⟩
    have := World.block_lt_of_cell? _ _ (hc 0 u hu)
    simp at this
    omega
  generalize hd : w1.heap.size = d at hd2 hlt1 hpbd
  clear hR1 hb1 kk k2 hc k0 hb
  have hkd : w.heap.size ≤ d := by omega
  clear hd
  go_loopw [27] (fun i wr => ∃ j : Nat, i = .int .i64 (j : Int) ∧ j ≤ 8 ∧ Boxed wr d (unbe 0 (P.take j)) false (.slice none 0 0) ∧ Kept [d] w2 wr) (fun i _ => (8 - intOf i).toNat)
  case atStart => exact ⟨0, rfl, by omega, hd2, Kept.refl _ _⟩
  case round =>
    clear hd2
    obtain ⟨j, rfl, hj, hd2, kd⟩ := hrel
    have hR := hR2.kept kd (fun g hg => by simp [Value.ownBlock] at hg; subst hg; simpa using hpbd)
    obtain ⟨a', cp', hve, _, _, _, h5⟩ := id hR
    injection hve with q1 q2 q3
    subst q1
    obtain ⟨pb', po', hab, hc⟩ := h5 (by intro h; rw [h] at hn; have := hn.out; simp at this; omega)
    simp at hab
    obtain ⟨rfl, rfl⟩ := hab
    clear h5 q2 q3
    obtain ⟨d0, d1, d2⟩ := hd2.cells
    have f0 := hd2.free 0
    by_cases h8 : j < 8
    · have hji : (j : Int) < 8 := by omega
      obtain ⟨u, hu⟩ : ∃ u, P[j]? = some u := ⟨P[j]'(by rw [hn.out]; omega), by simp⟩
      have HU := Hid.mk (unbe_take 0 P j u hu)
      have hN := unbe_lt (P.take j) 0 (by decide)
      have hcj := hc j u hu
      unfold B8 at hcj
      have hub := u.toNat_lt
      have fin' := Hid.mk fin
      clear fin hc hu s8 s9
      generalize unbe 0 (P.take j) = N at hN HU d0 hd2 ⊢
      generalize u.toNat = U at hub HU hcj
      have hor := or_run N U hub
      rw [← HU.out] at hor
      obtain ⟨hd3, k3⟩ := hd2.set0 (unbe 0 (P.take (j + 1)))
      have kd3 := Hid.mk (kd.trans k3 (fun x hx => .inl hx))
      have hd3' := Hid.mk hd3
      clear hd3 k3 HU kd hd2 hR hR2 hb2 kk2
      obtain ⟨M, hM⟩ : ∃ M, Hid (unbe 0 (P.take (j + 1)) = M) := ⟨_, rfl⟩
      rw [hM.out] at hor hd3' kd3
      go_wp2
      go_roundw
      case rel => exact ⟨j + 1, by go_num, by omega, by rw [hM.out]; exact hd3'.out, kd3.out⟩
      case measure => simp [intOf]; omega
    · have hj8 : j = 8 := by omega
      subst hj8
      rw [show ((8 : Nat) : Int) = 8 from rfl]
      obtain ⟨u, hu⟩ : ∃ u, P[8]? = some u := ⟨P[8]'(by rw [hn.out]; omega), by simp⟩
      have hcj := hc 8 u hu
      unfold B8 at hcj
      have hb3 := hb2.kept kd (by simp; omega)
      have kk3 := kk2.trans kd (fun x hx => .inr (by simp at hx; omega))
      rw [hu] at fin
      obtain ⟨X, hX⟩ : ∃ X : Bool, Hid ((u == 1) = X) := ⟨_, rfl⟩
      simp only [Option.getD_some] at fin
      rw [hX.out] at fin
      have hX2 : (((u.toNat : Nat) : Int) == 1) = X := by
        rw [← hX.out]
        have := u.toNat_lt
        by_cases h : u = 1
        · subst h; rfl
        · have : u.toNat ≠ 1 := fun e => h (UInt8.toNat_inj.1 e)
          rw [show (u == 1) = false by simpa using h]
          simp; omega
      have f1 := hd2.free 1
      have f2 := hd2.free 2
      obtain ⟨hd4, k4⟩ := hd2.set1 X
      obtain ⟨hd5, k5⟩ := hd4.set2 (.slice (some ⟨pb, po + 9, none⟩) (n - 9) (c - 9))
      have k45 := k4.trans k5 (fun x hx => .inl hx)
      have hb5 := hb3.kept k45 (by simp; omega)
      have kk5 := kk3.trans k45 (fun x hx => .inr (by simp at hx; omega))
      generalize unbe 0 (P.take 8) = N at fin d0 hd2 hd4 hd5
      have hR5 := hR.kept k45 (fun g hg => by simp [Value.ownBlock] at hg; subst hg; simpa using hpbd)
      obtain ⟨d0', d1', d2'⟩ := hd5.cells
      obtain ⟨b0, b1, b2⟩ := hb5.cells
      have g0 := hb5.free 0
      have g1 := hb5.free 1
      have g2 := hb5.free 2
      obtain ⟨hb6, k6⟩ := hb5.set N X (.slice (some ⟨pb, po + 9, none⟩) (n - 9) (c - 9))
      have kk6 := kk5.trans k6 (fun x hx => .inr (by simp at hx; omega))
      have hpbb : pb ≠ b := by
        intro e
        subst e
        have h9c := hc 9 (P[9]'(by rw [hn.out]; omega)) (by simp)
        unfold Boxed at hb3
        simp [World.cell?, hb3] at h9c
      have hR6 := hR5.kept k6 (fun g hg => by simp [Value.ownBlock] at hg; subst hg; simpa using hpbb)
      have hfin := Hid.mk (fin (.slice (some ⟨pb, po + 9, none⟩) (n - 9) (c - 9)) _ (hR6.from9 h9) kk6)
      have hb6' := Hid.mk hb6
      clear fin hb6 kk6 k6 hR6 hR5 hR hc hR2 kk5 kk3 kk2 hb2 hb3 kd k4 k5 k45
      unfold Boxed at hd2 hd4 hd5 hb5
      go_wp2_with fail
      refine bodyPost_ret (results_cell_row (P := Try.prog) (ty := 70) (p := 4) rfl _ _ b 70 _ (0, 0) _ rfl hb6'.out Try.underlying70 rfl size70) rfl ?_
      exact hfin.out
/-- partIn. -/
theorem pin_any (place : Nat) (v : Value) (B : List UInt8) (w : World) (hp : place < 4294967296) (hr : Reads w v B) :
    Calls Try.prog 37 #[.int .u32 (place : Int), v] w fun e w' => PartAt place B w e w' := by
  by_cases h : Fits 2 place B ∧ 9 < (payloadOf B).length
  · exact pin_yes place v B w hp hr h.1 h.2
  · exact pin_no place v B w hp hr h
end Go.Proofs.Ytdcjaopmfccgbaa
