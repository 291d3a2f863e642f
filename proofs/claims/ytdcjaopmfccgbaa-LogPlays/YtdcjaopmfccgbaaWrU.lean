/-
  writeUnit: a unit's blocks, one behind the other.
-/
import Derived.Test.YtdcjaopmfccgbaaLAsk
namespace Go.Proofs.Ytdcjaopmfccgbaa
open Go.RowKit
set_option linter.unusedVariables false

/-- A fuse behind j writes. -/
def fz (f : Int) (j : Nat) : Int := if f < 0 then f else f - (j : Int)
/-- The disk behind j of a unit's writes. -/
def sj (s : St) (fr ep st : Nat) (l : List UInt8) (j : Nat) : St := ⟨s.nb, s.ws ++ uws fr ep st l j, fz s.fuse j, false⟩
theorem sj_zero (s : St) (fr ep st : Nat) (l : List UInt8) (hd : s.down = false) : sj s fr ep st l 0 = s := by
  unfold sj fz
  obtain ⟨nb, ws, f, d⟩ := s
  simp [uws] at hd ⊢
  exact hd
theorem uw_len (fr ep st : Nat) (l : List UInt8) (j : Nat) : (uw fr ep st l j).2.length = 256 := blkP_length _ _ _ _ _ (chk_len l j)
theorem wrE_sj (s : St) (fr ep st : Nat) (l : List UInt8) (j : Nat) (hi : fr + st + j < s.nb) (h : fz s.fuse j ≠ 0) : wrE (sj s fr ep st l j) ((fr + st + j : Nat) : Int) 256 = 0 := by
  unfold wrE sj
  simp only
  rw [if_neg (by simp), if_neg (by simp; omega), if_neg h]
theorem wrE_sj0 (s : St) (fr ep st : Nat) (l : List UInt8) (j : Nat) (hi : fr + st + j < s.nb) (h : fz s.fuse j = 0) : wrE (sj s fr ep st l j) ((fr + st + j : Nat) : Int) 256 = 9 := by
  unfold wrE sj
  simp only
  rw [if_neg (by simp), if_neg (by simp; omega), if_pos h]
theorem wrS_sj (s : St) (fr ep st : Nat) (l : List UInt8) (j : Nat) (hi : fr + st + j < s.nb) (hf : s.fuse < 0 ∨ (j : Int) ≤ s.fuse) (h : fz s.fuse j ≠ 0) : wrS (sj s fr ep st l j) ((fr + st + j : Nat) : Int) (uw fr ep st l j).2 = sj s fr ep st l (j + 1) := by
  have hl := uw_len fr ep st l j
  unfold wrS sj
  simp only
  rw [if_neg (by simp), if_neg (by rw [hl]; omega), if_neg h, uws_succ, ← List.append_assoc]
  congr 1
  unfold fz at h ⊢
  by_cases h0 : s.fuse < 0
  · rw [if_pos h0, if_pos h0, if_neg (by omega)]
  · rw [if_neg h0] at h ⊢
    rw [if_pos (by omega), if_neg h0]
    omega
theorem wrS_sj0 (s : St) (fr ep st : Nat) (l : List UInt8) (j : Nat) (hi : fr + st + j < s.nb) (h : fz s.fuse j = 0) : wrS (sj s fr ep st l j) ((fr + st + j : Nat) : Int) (uw fr ep st l j).2 = { sj s fr ep st l j with down := true } := by
  have hl := uw_len fr ep st l j
  unfold wrS sj
  simp only
  rw [if_neg (by simp), if_neg (by rw [hl]; omega), if_pos h]

theorem sz5 (w : World) : (Go.sizeOf 5).run Try.prog w = .ok 1 w := by
  obtain ⟨i0, hi, hz0, hz1, hz2⟩ := info_parts inf5
  simp [Go.sizeOf, typeInfo, hi, hz1]
theorem slice_head (a : Option Addr) (c k : Nat) (l : List UInt8) (w : World) (h : Reads w (.slice a l.length c) l) (h0 : 0 < k) (hk : k ≤ l.length) :
    ∃ a' c', (∀ W, (Instr.slice 35 (.slice a l.length c) none (some (.int .i64 (k : Int))) none).run Try.prog W = .ok (.slice a' k c') W) ∧ Reads w (.slice a' k c') (l.take k) ∧ Within (.slice a l.length c) (.slice a' k c') := by
  have ht' : Try.prog.underlying 35 = some (.slice (Try.prog.elem 35)) := by simp [Program.elem, Try.underlying35]
  have he : Try.prog.elem 35 = 5 := by simp [Program.elem, Try.underlying35]
  obtain ⟨a0, cap0, hv, h2, h3, h4, h5⟩ := h
  injection hv with e1 e2 e3
  subst e1 e3
  obtain ⟨b, o, rfl, hc⟩ := h5 (by intro h; subst h; simp at hk; omega)
  have hl : (l.take k).length = k := by rw [List.length_take]; omega
  refine ⟨some ⟨b, o, none⟩, c, fun W => ?_, ⟨_, c, by rw [hl], by omega, h3, by simp, fun _ => ⟨b, o, rfl, fun j u hu => ?_⟩⟩, fun g hg => hg⟩
  · rw [run_slice_h W 35 _ _ _ ht' .i64 _ (by omega) (by omega), he, sz5]
    have e2 : ¬ c = 0 := by omega
    simp [Result.andThen, sliced, e2, Addr.add]
  · have hj : j < k := by
      have := (List.getElem?_eq_some_iff.1 hu).1; omega
    rw [List.getElem?_take_of_lt hj] at hu
    exact hc j u hu
/-- What writeUnit answers, and leaves. -/
def Wrote (s : St) (fr ep st : Nat) (l : List UInt8) (F : List Nat) (q : Nat) (w : World) (e : Ending) (w' : World) : Prop :=
  (e = .returned (.int .i64 0) ∧ (s.fuse < 0 ∨ (bks l.length : Int) ≤ s.fuse) ∧ ∃ F', IsD w' F' q (sj s fr ep st l (bks l.length)) ∧ Kept F w w' ∧ NewF w F F') ∨
  (∃ j, j < bks l.length ∧ s.fuse = (j : Int) ∧ e = .returned (.int .i64 9) ∧ ∃ F', IsD w' F' q { sj s fr ep st l j with down := true } ∧ Kept F w w' ∧ NewF w F F')

/-- What the cells of the log and of the part say, wherever they lie. -/
def NS (p q fr b ep : Nat) (X : Bool) (v : Value) (w : World) : Prop := w.cell? ⟨p, 0, none⟩ = some (.pointer (some ⟨q, 0, none⟩)) ∧ w.cell? ⟨p, 1, none⟩ = some (.int .i64 (fr : Int)) ∧ w.cell? ⟨b, 0, none⟩ = some (.int .u64 (ep : Int)) ∧ w.cell? ⟨b, 1, none⟩ = some (.bool X) ∧ w.cell? ⟨b, 2, none⟩ = some v
theorem ns_of {p q fr ct b ep st : Nat} {X over : Bool} {v : Value} {w : World} {G : List Nat} {us : List (List UInt8)} (hL : IsL w G p q fr ct ep us st over) (hB : Boxed w b ep X v) : NS p q fr b ep X v w := by
  obtain ⟨c0, c1, c2, c3, c5, c6⟩ := hL.cells
  exact ⟨c0, c1, hB.cells⟩
/-- place, block and Write, one behind the other. -/
theorem put_any {w2 : World} {F G : List Nat} {p q fr ct b ep st x y : Nat} {X over : Bool} {sx : St} {us : List (List UInt8)} {a : Option Addr} {k d : Nat} {ck : List UInt8} (hD : IsD w2 F q sx) (hL : IsL w2 G p q fr ct ep us st over) (hB : Boxed w2 b ep X (.slice a k d)) (hR : Reads w2 (.slice a k d) ck) (hk : ck.length = k) (hk2 : k ≤ 233) (hep : ep < 18446744073709551616) (hFG : ∀ x ∈ F, x ∉ G) (hbF : b ∉ F) (hb : sx.ws.length ≤ 100000) (hy : fr + x = y) (hst : st < 65536) (hy2 : y < 65536) :
    Calls Try.prog 35 #[.pointer (some ⟨p, 0, none⟩), .int .i64 (x : Int)] w2 fun e w3 => e = .returned (.int .u32 (plc st y : Int)) ∧ NS p q fr b ep X (.slice a k d) w3 ∧
      Calls Try.prog 34 #[.agg #[.int .u64 (ep : Int), .bool X, .slice a k d], .int .u32 (plc st y : Int)] w3 fun e w4 => ∃ v4, e = .returned v4 ∧ NS p q fr b ep X (.slice a k d) w4 ∧
        Calls Try.prog 33 #[.pointer (some ⟨q, 0, none⟩), .int .i64 (y : Int), v4] w4 fun e w5 => e = .returned (.int .i64 (wrE sx (y : Int) 256)) ∧ NS p q fr b ep X (.slice a k d) w5 ∧ ∃ F', IsD w5 F' q (wrS sx (y : Int) (blkP ep st y X ck)) ∧ Kept F w2 w5 ∧ NewF w2 F F' := by
  subst hy
  obtain ⟨c0, c1, c2, c3, c5, c6⟩ := hL.cells
  have hpF : p ∉ F := fun h => hFG p h hL.pG
  refine (place_any p fr st x w2 c1 c5 hst hy2).mono fun e w3 ⟨he, k3⟩ => ⟨he, ns_of (hL.kept k3 (by simp)) (hB.kept k3 (by simp)), ?_⟩
  refine (block_any ep (plc st (fr + x)) X a k d ck w3 (plc_lt hst hy2) hep hk hk2 (hR.kept k3 (by simp))).mono fun e w4 ⟨v4, he, hS⟩ => ⟨v4, he, ns_of ((hL.kept k3 (by simp)).kept hS.kept (by simp)) ((hB.kept k3 (by simp)).kept hS.kept (by simp)), ?_⟩
  have k4 := k3.trans hS.kept (by simp)
  have hv4 : ∀ g, v4.ownBlock = some g → g ∉ F := by
    obtain ⟨g, rfl, hg, _⟩ := hS
    intro x hx hm
    simp [Value.ownBlock] at hx
    have := hD.lt x hm
    have := k3.size
    omega
  have hlen := blkP_length ep st (fr + x) X ck (by omega)
  refine (write_any (hD.kept k4 (by simp)) ((fr + x : Nat) : Int) v4 (blkP ep st (fr + x) X ck) hS.reads hv4 hb).mono fun e w5 ⟨he, F', h1, h2, h3⟩ => ⟨?_, ?_, F', h1, ?_, ?_⟩
  · rw [he, hlen]
  · exact ns_of ((hL.kept k4 (by simp)).kept h2 (fun y hy hm => hFG y hm hy)) ((hB.kept k4 (by simp)).kept h2 hbF)
  · exact (k4.mono (by simp)).trans h2 (fun x hx => .inl hx)
  · intro x hx
    rcases h3 x hx with h | h
    · exact .inl h
    · exact .inr (Nat.le_trans k4.size h)

set_option maxRecDepth 100000 in
set_option maxHeartbeats 1000000 in
theorem writeUnit_any {w : World} {F G : List Nat} {p q fr ct ep st : Nat} {us : List (List UInt8)} {over : Bool} {s : St} (hD : IsD w F q s) (hL : IsL w G p q fr ct ep us st over) (hFG : ∀ x ∈ F, x ∉ G) (hd : s.down = false) (ha : fr + ct ≤ s.nb) (hep : ep < 18446744073709551616)
    (a : Option Addr) (n c : Nat) (l : List UInt8) (hr : Reads w (.slice a n c) l) (hn : l.length = n) (hv : ∀ g, (Value.slice a n c).ownBlock = some g → g ∉ F) (hvl : ∀ g, (Value.slice a n c).ownBlock = some g → g < w.heap.size) (hroom : st + bks n ≤ ct) (hws : s.ws.length ≤ 30000) :
    Calls Try.prog 26 #[.pointer (some ⟨p, 0, none⟩), .slice a n c] w fun e w' => Wrote s fr ep st l F q w e w' := by
  have hnb := hD.ok.nb
  obtain ⟨c0, c1, c2, c3, c5, c6⟩ := hL.cells
  obtain ⟨R, hR⟩ : ∃ R, Hid (Wrote s fr ep st l F q w = R) := ⟨_, rfl⟩
  rw [hR.out]
  go_enter Try.func26, Try.ntmps26
  go_wp2_with fail
  clear c0 c1 c2 c3 c5 c6
  go_loopw [5, 6] (fun i v wr => ∃ (j : Nat) (a : Option Addr) (m c : Nat) (F' : List Nat), i = .int .i64 ((st + j : Nat) : Int) ∧ v = .slice a m c ∧ m = n - 233 * j ∧ j ≤ bks n ∧ Reads wr (.slice a m c) (l.drop (233 * j)) ∧ (∀ g, (Value.slice a m c).ownBlock = some g → g ∉ F' ∧ g < w.heap.size) ∧ IsD wr F' q (sj s fr ep st l j) ∧ (s.fuse < 0 ∨ (j : Int) ≤ s.fuse) ∧ Kept F w wr ∧ NewF w F F') (fun i _ _ => (ct - (intOf i).toNat))
  case atStart => exact ⟨0, a, n, c, F, rfl, rfl, by omega, Nat.zero_le _, hr, fun g hg => ⟨hv g hg, hvl g hg⟩, by rw [sj_zero s fr ep st l hd]; exact hD, by have := hD.ok.fuse; omega, Kept.refl _ _, NewF.refl _ _⟩
  case round =>
    obtain ⟨j, a, m, c, F', rfl, rfl, hm, hj, hrr, hvv, hDr, hfu, hK, hN⟩ := hrel
    have hLr := hL.kept hK (fun x hx hm => hFG x hm hx)
    have hFG' : ∀ x ∈ F', x ∉ G := fun x hx hg => by
      rcases hN x hx with h | h
      · exact hFG x h hg
      · have := hL.lt x hg; omega
    obtain ⟨c0, c1, c2, c3, c5, c6⟩ := hLr.cells
    have HM : Hid (m = n - 233 * j) := hm
    clear hm
    obtain ⟨x, hx⟩ : ∃ x, Hid (st + j = x) := ⟨_, rfl⟩
    rw [hx.out]
    by_cases hm0 : m = 0
    · subst hm0
      have hje : j = bks n := by have := HM.out; unfold bks at hj ⊢; omega
      subst hje
      have fin : Hid (R (.returned (.int .i64 0)) wr) := by
        show R _ _
        rw [← hR.out]
        refine .inl ⟨rfl, ?_, F', ?_, hK, hN⟩
        · rw [hn]; exact hfu
        · rw [hn]; exact hDr
      clear hDr hK hN hrr hvv hLr hL hD hr hR
      go_wp2
      exact fin.out
    · have hmi : (0 : Int) < (m : Int) := by omega
      obtain ⟨k, hk⟩ : ∃ k, Hid (min m 233 = k) := ⟨_, rfl⟩
      have hkm : k ≤ m := by have := hk.out; omega
      have hk0 : 0 < k := by have := hk.out; omega
      have hkk : k ≤ 233 := by have := hk.out; omega
      have hmin : (if (233 : Int) < (m : Int) then (233 : Int) else (m : Int)) = (k : Int) := by have := hk.out; split <;> omega
      have hlen : (l.drop (233 * j)).length = m := by rw [List.length_drop, hn]; exact HM.out.symm
      have hrr' := hrr
      rw [← hlen] at hrr'
      obtain ⟨a1, d1, hs1, hr1, hw1⟩ := slice_head a c k (l.drop (233 * j)) wr hrr' hk0 (by omega)
      obtain ⟨a2, d2, hs2, hr2, hw2⟩ := slice_from (P := Try.prog) 35 5 Try.underlying35 sz5 .i64 a c k (l.drop (233 * j)) wr hrr' (by omega)
      rw [hlen] at hs1 hw1 hs2 hr2 hw2
      obtain ⟨m', hm'⟩ : ∃ m', Hid (m - k = m') := ⟨_, rfl⟩
      rw [hm'.out] at hs2 hr2 hw2
      obtain ⟨X, hX⟩ : ∃ X, Hid (lastB l j = X) := ⟨_, rfl⟩
      have hjb : j < bks n := lt_bks.2 (by have := HM.out; omega)
      have hX2 : ((m' : Int) == 0) = X := by
        rw [← hX.out]
        unfold lastB
        have e1 := hm'.out
        have e2 := HM.out
        have e3 := hk.out
        rw [hn]
        by_cases h : n ≤ 233 * (j + 1)
        · have : m' = 0 := by omega
          simp [h, this]
        · have : m' ≠ 0 := by omega
          simp [h, this]
      have hck : (l.drop (233 * j)).take k = chk l j := by
        unfold chk
        by_cases h : m ≤ 233
        · have : k = m := by have := hk.out; omega
          rw [this, List.take_of_length_le (by omega), List.take_of_length_le (by omega)]
        · have : k = 233 := by have := hk.out; omega
          rw [this]
      have hdr : (l.drop (233 * j)).drop k = l.drop (233 * (j + 1)) := by
        by_cases h : m ≤ 233
        · have : k = m := by have := hk.out; omega
          rw [this, List.drop_eq_nil_of_le (by omega), List.drop_eq_nil_of_le (by rw [hn]; have := HM.out; omega)]
        · have : k = 233 := by have := hk.out; omega
          rw [this, List.drop_drop]
          congr 1
      rw [hck] at hr1
      rw [hdr] at hr2
      have hclen : (chk l j).length = k := by rw [← hck, List.length_take]; omega
      clear hrr'
      have S0 : wr.drew.cell? ⟨p, 3, none⟩ = some (.int .u64 (ep : Int)) := c3
      have HR1 := Hid.mk hr1
      have HR2 := Hid.mk hr2
      have HW2 := Hid.mk hw2
      have HW1 := Hid.mk hw1
      have HCL := Hid.mk hclen
      have HVV := Hid.mk hvv
      have HFU := Hid.mk hfu
      clear hr1 hr2 hw1 hw2 hclen hck hdr hvv hrr hlen hfu
      go_wp2_with fail
      go_region_held3 (fun w' => w'.cell? ⟨p, 3, none⟩ = some (.int .u64 (ep : Int))) (first | exact S0 | go_keep) (fail)
      all_goals
        have k1 : Kept [] wr (wr.alloc (.cells #[.int .u64 (ep : Int), .bool false, .slice a1 k d1] 70)).drew := ((Kept.refl [] wr).alloc _).drew
        have hb1 : Boxed (wr.alloc (.cells #[.int .u64 (ep : Int), .bool false, .slice a1 k d1] 70)).drew wr.heap.size ep false (.slice a1 k d1) := heap_alloc_new wr _
        have hbF : wr.heap.size ∉ F' := fun h => by have := hDr.lt _ h; omega
        have hbG : wr.heap.size ∉ G := fun h => by have := hLr.lt _ h; omega
        generalize (wr.alloc (.cells #[.int .u64 (ep : Int), .bool false, .slice a1 k d1] 70)).drew = w1 at k1 hb1 ⊢
        have hbw : w.heap.size ≤ wr.heap.size := hK.size
        generalize wr.heap.size = b at hb1 hbF hbG hbw ⊢
        obtain ⟨x0, x1, x2⟩ := hb1.cells
        have f1 := hb1.free 1
        obtain ⟨hb2, k2⟩ := hb1.set1 X
        have HB2 := Hid.mk hb2
        have HK2 : Hid (Kept [b] wr (w1.setCell ⟨b, 1, none⟩ (.bool X))) := (k1.mono (by simp)).trans k2 (fun x hx => .inl hx)
        clear hb2 k2 S0 c0 c1 c2 c3 c5 c6
        go_wp2_with fail
        generalize w1.setCell ⟨b, 1, none⟩ (.bool X) = w2 at HB2 HK2 ⊢
        clear x0 x1 x2 f1 hb1 k1
        have HK3 : Hid (Kept [b] wr w2.drew) := HK2.out.drew
        have hD3 := hDr.kept HK3.out (fun x hx => by simp; intro e; subst e; exact hbF hx)
        have hL3 := hLr.kept HK3.out (fun x hx => by simp; intro e; subst e; exact hbG hx)
        have hB3 : Boxed w2.drew b ep X (.slice a1 k d1) := HB2.out
        have hvb : ∀ g, (Value.slice a m c).ownBlock = some g → g ∉ [b] := fun g hg => by have := HVV.out g hg; simp; omega
        have hR13 := HR1.out.kept HK3.out (fun g hg => by
          have : (Value.slice a m c).ownBlock = some g := HW1.out g hg
          exact hvb g this)
        have hR23 := HR2.out.kept HK3.out (fun g hg => hvb g (HW2.out g hg))
        have hyb : fr + x < 65536 := by have := hx.out; omega
        obtain ⟨y, hy⟩ : ∃ y, Hid (fr + x = y) := ⟨_, rfl⟩
        have hput := put_any hD3 hL3 hB3 hR13 HCL.out hkk hep hFG' hbF (by show (s.ws ++ uws fr ep st l j).length ≤ 100000; rw [List.length_append, uws_length]; omega) hy.out (by omega) (by rw [← hy.out]; exact hyb)
        have hyx : y = fr + st + j := by have := hx.out; have := hy.out; omega
        have huw : Hid (blkP ep st y X (chk l j) = (uw fr ep st l j).2) := by show _ = _; unfold uw; simp only; rw [hyx, hX.out]
        rw [huw.out] at hput
        have hwr : IntKind.i64.wrap ((fr : Int) + (x : Int)) = (y : Int) := by rw [IntKind.wrap_i64]; have := hy.out; omega
        have SS := ns_of hL3 hB3
        unfold NS at SS hput
        obtain ⟨s0, s1, s2, s3, s4⟩ := ns_of (hLr.kept HK2.out (fun x hx => by simp; intro e; subst e; exact hbG hx)) HB2.out
        have HL3 := Hid.mk hL3
        have HR23 := Hid.mk hR23
        have HJ : Hid (fr + st + j < s.nb) := by show _ < _; omega
        have HM2 : Hid (m' = n - 233 * (j + 1)) := by show _ = _; have := hm'.out; have := hk.out; have := HM.out; omega
        have HYX := Hid.mk hyx
        have HJB : Hid (j + 1 ≤ bks n) := hjb
        have HXC : Hid (x < ct) := by show x < ct; have := hx.out; omega
        have HBW := Hid.mk hbw
        clear hyx hbw
        clear hD3 hL3 hB3 hR13 hR23 hvb hDr hLr HB2 HK2 hyb hmin hs1 hs2 hX2 hmi hm0 hkm hk0 hk hm' HM hr hv hvl hFG hFG' s0 s1 s2 s3 s4
        go_region_held3 (fun w' => w'.cell? ⟨p, 0, none⟩ = some (.pointer (some ⟨q, 0, none⟩)) ∧ w'.cell? ⟨p, 1, none⟩ = some (.int .i64 (fr : Int)) ∧ w'.cell? ⟨b, 0, none⟩ = some (.int .u64 (ep : Int)) ∧ w'.cell? ⟨b, 1, none⟩ = some (.bool X) ∧ w'.cell? ⟨b, 2, none⟩ = some (.slice a1 k d1)) (first | exact SS | exact S3 | exact S4 | exact S5) (first | (go_at_call 33; refine hC.mono ?_; rintro e w5 ⟨rfl, S5, hfin⟩) | (go_at_call 34; refine hB.mono ?_; rintro e w4 ⟨v4, rfl, S4, hC⟩) | (go_at_call 35; refine hput.mono ?_; rintro e w3 ⟨rfl, S3, hB⟩))
        obtain ⟨F5, hD5, k5, n5⟩ := hfin
        have HKt : Hid (Kept F w w5) := (hK.trans HK3.out (fun x hx => by simp at hx; subst hx; exact .inr HBW.out)).trans k5 (fun x hx => hN x hx)
        have HS3 : w.heap.size ≤ w2.drew.heap.size := Nat.le_trans hK.size HK3.out.size
        have HNt : Hid (NewF w F F5) := fun x hx => by
          rcases n5 x hx with h | h
          · exact hN x h
          · exact .inr (Nat.le_trans HS3 h)
        have HR5 := Hid.mk (HR23.out.kept k5 (fun g hg => (HVV.out g (HW2.out g hg)).1))
        have HV5 : Hid (∀ g, (Value.slice a2 m' d2).ownBlock = some g → g ∉ F5 ∧ g < w.heap.size) := fun g hg => by
          have h1 := HVV.out g (HW2.out g hg)
          refine ⟨fun hm => ?_, h1.2⟩
          rcases n5 g hm with h | h
          · exact h1.1 h
          · omega
        rw [HYX.out] at hD5 ⊢
        clear S3 S4 S5 SS hput hB hC HR23 HR1 HR2 HW1 HW2 HVV k5 n5 hK hN HL3 HK3 hL hD
        by_cases hz : fz s.fuse j = 0
        · rw [wrS_sj0 s fr ep st l j HJ.out hz] at hD5
          rw [wrE_sj0 s fr ep st l j HJ.out hz]
          have fin : Hid (R (.returned (.int .i64 9)) w5) := by
            show R _ _
            rw [← hR.out]
            refine .inr ⟨j, by rw [hn]; exact hjb, ?_, rfl, F5, hD5, HKt.out, HNt.out⟩
            unfold fz at hz
            split at hz <;> omega
          clear hD5 HR5 HV5 hR
          go_wp2
          exact fin.out
        · rw [wrS_sj s fr ep st l j HJ.out HFU.out hz] at hD5
          rw [wrE_sj s fr ep st l j HJ.out hz]
          have HD5 := Hid.mk hD5
          have HF5 : Hid (s.fuse < 0 ∨ ((j + 1 : Nat) : Int) ≤ s.fuse) := by
            show _ ∨ _
            have := HFU.out
            unfold fz at hz
            split at hz <;> omega
          have hxb : x < 65536 := by have := HXC.out; omega
          clear hD5 hR hz
          go_wp2
          go_roundw
          case rel => exact ⟨j + 1, a2, m', d2, F5, by rw [← hx.out]; go_num, rfl, HM2.out, HJB.out, HR5.out, HV5.out, HD5.out, HF5.out, HKt.out, HNt.out⟩
          case measure => have := HXC.out; simp [intOf]; omega
end Go.Proofs.Ytdcjaopmfccgbaa
