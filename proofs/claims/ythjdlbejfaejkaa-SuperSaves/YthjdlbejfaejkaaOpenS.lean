/-
  Open: the record of a disk.
-/
import Derived.Test.YthjdlbejfaejkaaFind
namespace Go.Proofs.Ythjdlbejfaejkaa
open Go.RowKit
set_option linter.unusedVariables false

theorem opn_nil (w : World) : Calls Try.prog 9 #[.pointer none] w fun e w' => e = .returned (.tuple #[.pointer none, .int .i64 1]) ∧ w = w' := by
  go_enter Try.func9, Try.ntmps9
  go_wp2_with (go_at_call 18; refine (blocks_nil _).mono ?_; rintro e w' ⟨rfl, rfl⟩)
  go_ret2
  exact ⟨rfl, rfl⟩
theorem opn_few {F : List Nat} {p : Nat} {s : St} {w : World} (hD : IsD w F p s) (h : s.nb < 2) : Calls Try.prog 9 #[.pointer (some ⟨p, 0, none⟩)] w fun e w' => e = .returned (.tuple #[.pointer none, .int .i64 1]) ∧ w = w' := by
  have hb := blocks_any hD
  generalize s.nb = n at hb h
  have hn : (n : Int) < 2 := by omega
  clear hD
  go_enter Try.func9, Try.ntmps9
  go_wp2_with (go_at_call 18; refine hb.mono ?_; rintro e w' ⟨rfl, rfl⟩)
  go_ret2
  exact ⟨rfl, rfl⟩

set_option maxRecDepth 100000 in
set_option maxHeartbeats 400000 in
theorem opn_down {F : List Nat} {p : Nat} {s : St} {w : World} (hD : IsD w F p s) (h : 2 ≤ s.nb) (hd : s.down = true) : Calls Try.prog 9 #[.pointer (some ⟨p, 0, none⟩)] w fun e w' => e = .returned (.tuple #[.pointer none, .int .i64 9]) ∧ Kept [] w w' := by
  have hb := blocks_any hD
  have k0 := (Kept.refl [] w).alloc (.cells #[.int .u64 0, .slice none 0 0, .pointer (some ⟨p, 0, none⟩), .bool false] 50)
  have hr := read_down (hD.kept k0 (by simp)) 0 hd
  generalize s.nb = n at hb h
  have hn : ¬ (n : Int) < 2 := by omega
  clear hD
  go_enter Try.func9, Try.ntmps9
  go_wp2_with (first | (go_at_call 18; refine hb.mono ?_; rintro e w' ⟨rfl, rfl⟩) | (go_at_call 19; refine hr.mono ?_; rintro e w' ⟨rfl, rfl⟩))
  go_loopw [15] (fun i wr => i = .int .i64 0 ∧ wr = w.alloc (.cells #[.int .u64 0, .slice none 0 0, .pointer (some ⟨p, 0, none⟩), .bool false] 50)) (fun _ _ => 0)
  case atStart => exact ⟨rfl, rfl⟩
  case round =>
    obtain ⟨rfl, rfl⟩ := hrel
    go_wp2_with (go_at_call 19; refine hr.mono ?_; rintro e w' ⟨rfl, rfl⟩)
    go_ret2
    exact ⟨rfl, k0⟩

theorem heap4_set01 {w : World} {b : Nat} {x0 x1 x2 x3 : Value} {t : TypeId} (h : w.heap[b]? = some (.cells #[x0, x1, x2, x3] t (0, 0))) (y0 y1 : Value) : ((w.setCell ⟨b, 0, none⟩ y0).setCell ⟨b, 1, none⟩ y1).heap[b]? = some (.cells #[y0, y1, x2, x3] t (0, 0)) := by
  rw [heap_setCell_same _ b 1 _ t _ (heap_setCell_same w b 0 _ t _ h)]
  rfl
theorem IsS.set {w : World} {p : Nat} {v : Value} {r : Rc} {q : Nat} {over : Bool} (h : IsS w p v r q over) (v' : Value) (r' : Rc) (hr : Reads w v' r'.2) (ha : v'.ownBlock ≠ some p) (hg : r'.1 < 18446744073709551616) (hl : r'.2.length ≤ 200) (hx : ∀ g, v'.ownBlock = some g → g < w.heap.size) :
    IsS ((w.setCell ⟨p, 0, none⟩ (.int .u64 (r'.1 : Int))).setCell ⟨p, 1, none⟩ v') p v' r' q over ∧ Kept [p] w ((w.setCell ⟨p, 0, none⟩ (.int .u64 (r'.1 : Int))).setCell ⟨p, 1, none⟩ v') := by
  have k : Kept [p] w ((w.setCell ⟨p, 0, none⟩ (.int .u64 (r'.1 : Int))).setCell ⟨p, 1, none⟩ v') := ((Kept.refl [p] w).setCell (.inl (by simp)) _).setCell (.inl (by simp)) _
  exact ⟨⟨heap4_set01 h.box _ _, hr.kept k (fun g hg => by simp; intro e; subst e; exact ha hg), ha, hg, hl, fun g hg => Nat.lt_of_lt_of_le (hx g hg) k.size⟩, k⟩

/-- What was found behind j of the two blocks. -/
def Scanned (b0 b1 : List UInt8) (j : Nat) (r : Rc) : Prop := j = 0 ∧ r = (0, []) ∨ j = 1 ∧ (∃ r0, Found 0 b0 r0 ∧ r = better (0, []) r0) ∨ j = 2 ∧ Opens b0 b1 r
theorem Scanned.next {b0 b1 : List UInt8} {j : Nat} {r r' : Rc} (h : Scanned b0 b1 j r) (hj : j < 2) (hf : Found j (if j = 0 then b0 else b1) r') : Scanned b0 b1 (j + 1) (better r r') := by
  rcases h with ⟨rfl, rfl⟩ | ⟨rfl, r0, h0, rfl⟩ | ⟨rfl, _⟩
  · exact .inr (.inl ⟨rfl, r', hf, rfl⟩)
  · exact .inr (.inr ⟨rfl, r0, r', h0, hf, rfl⟩)
  · omega
theorem Scanned.done {b0 b1 : List UInt8} {r : Rc} (h : Scanned b0 b1 2 r) : Opens b0 b1 r := by
  rcases h with ⟨h, _⟩ | ⟨h, _⟩ | ⟨_, h⟩
  · omega
  · omega
  · exact h

/-- What Open leaves: a Super in new memory. -/
def Opened6 (s : St) (q : Nat) (w : World) (e : Ending) (w' : World) : Prop :=
  ∃ p v r, e = .returned (.tuple #[.pointer (some ⟨p, 0, none⟩), .int .i64 0]) ∧ IsS w' p v r q false ∧ Kept [] w w' ∧ w.heap.size ≤ p ∧ Fresh w v ∧ Opens (blk s.ws 0) (blk s.ws 1) r

set_option maxRecDepth 100000 in
set_option maxHeartbeats 400000 in
theorem opn_ok {F : List Nat} {q : Nat} {s : St} {w : World} (hD : IsD w F q s) (h : 2 ≤ s.nb) (hd : s.down = false) : Calls Try.prog 9 #[.pointer (some ⟨q, 0, none⟩)] w fun e w' => Opened6 s q w e w' := by
  have hb := blocks_any hD
  have hq := hD.lt
  have fin : ∀ p v r w', IsS w' p v r q false → Kept [] w w' → w.heap.size ≤ p → Fresh w v → Opens (blk s.ws 0) (blk s.ws 1) r → Opened6 s q w (.returned (.tuple #[.pointer (some ⟨p, 0, none⟩), .int .i64 0])) w' := fun p v r w' h1 h2 h3 h4 h5 => ⟨p, v, r, rfl, h1, h2, h3, h4, h5⟩
  generalize Opened6 s q w = R at fin
  have k0 := (Kept.refl [] w).alloc (.cells #[.int .u64 0, .slice none 0 0, .pointer (some ⟨q, 0, none⟩), .bool false] 50)
  have hS0 : IsS (w.alloc (.cells #[.int .u64 0, .slice none 0 0, .pointer (some ⟨q, 0, none⟩), .bool false] 50)) w.heap.size (.slice none 0 0) (0, []) q false := ⟨heap_alloc_new w _, Reads.nil _, by simp [Value.ownBlock], by decide, by simp, by simp [Value.ownBlock]⟩
  have hn : ¬ (s.nb : Int) < 2 := by omega
  generalize hnb : s.nb = n at hb hn
  have hnb2 := Hid.mk h
  clear hnb h
  go_enter Try.func9, Try.ntmps9
  go_wp2_with (first | (go_at_call 18; refine hb.mono ?_; rintro e w' ⟨rfl, rfl⟩))
  generalize hw0 : w.alloc (.cells #[.int .u64 0, .slice none 0 0, .pointer (some ⟨q, 0, none⟩), .bool false] 50) = w0 at k0 hS0
  generalize hp : w.heap.size = p at hS0
  clear hw0 hb hn
  go_loopw [15] (fun i wr => ∃ (j : Nat) (v : Value) (r : Rc), i = .int .i64 (j : Int) ∧ j ≤ 2 ∧ IsS wr p v r q false ∧ Kept [] w wr ∧ Fresh w v ∧ Scanned (blk s.ws 0) (blk s.ws 1) j r) (fun i _ => (2 - intOf i).toNat)
  case atStart => exact ⟨0, _, _, rfl, by omega, hS0, k0, by intro g hg; simp [Value.ownBlock] at hg, .inl ⟨rfl, rfl⟩⟩
  case round =>
    obtain ⟨j, v, r, rfl, hj, hS, hk, hf, hsc⟩ := hrel
    by_cases h2 : j = 2
    · subst h2
      have fin' := Hid.mk (fin p v r wr hS hk (by omega) hf hsc.done)
      clear fin hsc hS hk hf
      rw [show ((2 : Nat) : Int) = 2 from rfl]
      go_wp2
      exact fin'.out
    · have hj2 : j < 2 := by omega
      have hji : (j : Int) < 2 := by omega
      have hDr := hD.kept hk (by simp)
      have hrd := read_ok hDr j hd (by have := hnb2.out; omega)
      have hB : Hid ((if j = 0 then blk s.ws 0 else blk s.ws 1) = blk s.ws j) := by
        have : j = 0 ∨ j = 1 := by omega
        rcases this with rfl | rfl
        · rfl
        · rfl
      have hbl := blk_len s.nb s.ws hD.ok.ws j
      have hsc' := Hid.mk hsc
      clear hsc
      go_wp2_with fail
      refine hrd.mono ?_
      rintro e w1 ⟨rfl, hR1, k1⟩
      have hrd1 := hR1.reads_all hbl
      have hS1 := hS.kept k1 (by simp) (by simp)
      have kk1 := hk.trans k1 (by simp)
      clear hrd hR1 hS k1 hDr
      generalize hB1 : blk s.ws j = B at hrd1 hB
      clear hB1 hbl
      go_wp2_with fail
      refine (find_any j _ B w1 hj2 hrd1).mono ?_
      rintro e w2 ⟨G, v2, l2, rfl, hR2, k2, f2, hx2, hF2⟩
      obtain ⟨a2, c2, hv2⟩ : ∃ a c, v2 = .slice a l2.length c := by obtain ⟨a, c, h, _⟩ := hR2; exact ⟨a, c, h⟩
      subst hv2
      have hS2 := hS1.kept k2 (by simp) (by simp)
      have kk2 := kk1.trans k2 (by simp)
      have ff2 : Fresh w (.slice a2 l2.length c2) := fun g hg => Nat.le_trans kk1.size (f2 g hg)
      have hpa : (Value.slice a2 l2.length c2).ownBlock ≠ some p := fun e => by have := f2 p e; have := hS1.lt; omega
      have hok2 := Hid.mk (found_ok hF2)
      have hF2' : Hid (Found j (if j = 0 then blk s.ws 0 else blk s.ws 1) (G, l2)) := by rw [hB.out]; exact hF2
      clear hrd1 hS1 k2 kk1 f2 hF2 hB
      have k3 := (Kept.refl [] w2).alloc (.cells #[.int .u64 (G : Int), .slice a2 l2.length c2] 48)
      have hc3 : Boxed (w2.alloc (.cells #[.int .u64 (G : Int), .slice a2 l2.length c2] 48)) w2.heap.size G (.slice a2 l2.length c2) := heap_alloc_new w2 _
      have hS3 := hS2.kept k3 (by simp) (by simp)
      have kk3 := kk2.trans k3 (by simp)
      have hR3 := hR2.kept k3 (by simp)
      have hx3 := Hid.mk (fun g hg => Nat.lt_of_lt_of_le (hx2 g hg) k3.size)
      have hS2lt := hS2.lt
      clear hS2 kk2 hR2 hx2
      go_wp2_with fail
      have hpc : p ≠ w2.heap.size := fun e => by have := hS2lt; omega
      generalize w2.alloc (.cells #[.int .u64 (G : Int), .slice a2 l2.length c2] 48) = w3 at k3 hc3 hS3 kk3 hR3 hx3
      generalize w2.heap.size = c at hc3 hpc
      clear k3
      have hc3' := hc3
      obtain ⟨c0, c1⟩ := cell_of_two hc3'
      obtain ⟨d0, d1, d2, d3⟩ := cells4 hS3.box
      have g0 := free4 hS3.box 0
      have g1 := free4 hS3.box 1
      have c0d : w3.drew.cell? ⟨c, 0, none⟩ = some (.int .u64 (G : Int)) := c0
      have d0d : w3.drew.cell? ⟨p, 0, none⟩ = some (.int .u64 (r.1 : Int)) := d0
      go_region
      have kd : Kept [] w3 w3.drew := (Kept.refl [] w3).drew
      have hS4 := hS3.kept kd (by simp) (by simp)
      have kk4 := kk3.trans kd (by simp)
      have hR4 := hR3.kept kd (by simp)
      have hc4 : Boxed w3.drew c G (.slice a2 l2.length c2) := hc3
      clear c0 c1 d0 d1 d2 d3 g0 g1 c0d d0d hc3 hc3' hS3 kk3 hR3 kd
      have hx4 : Hid (∀ g, (Value.slice a2 l2.length c2).ownBlock = some g → g < w3.drew.heap.size) := hx3
      clear hx3
      generalize w3.drew = w4 at hS4 kk4 hR4 hc4 hx4
      have hc4' := hc4
      obtain ⟨c0, c1⟩ := cell_of_two hc4'
      obtain ⟨d0, d1, d2, d3⟩ := cells4 hS4.box
      have g0 := free4 hS4.box 0
      have g1 := free4 hS4.box 1
      unfold Boxed at hc4
      by_cases hlt : r.1 < G
      · obtain ⟨hS5, k5⟩ := hS4.set (.slice a2 l2.length c2) (G, l2) hR4 hpa hok2.out.1 hok2.out.2 hx4.out
        have kk5 := kk4.trans k5 (fun x hx => .inr (by simp at hx; omega))
        have hnx : Hid (Scanned (blk s.ws 0) (blk s.ws 1) (j + 1) (G, l2)) := by
          have := hsc'.out.next hj2 hF2'.out
          unfold better at this
          rwa [if_pos hlt] at this
        have hS5' := Hid.mk hS5
        have kk5' := Hid.mk kk5
        have ff2' := Hid.mk ff2
        clear hS5 kk5 hsc' hF2' fin hS4 kk4 hR4 k5 hok2 hf ff2
        go_wp2
        go_roundw
        case rel => exact ⟨j + 1, _, _, by go_num, by omega, hS5'.out, kk5'.out, ff2'.out, hnx.out⟩
        case measure => simp [intOf]; omega
      · have hnx : Hid (Scanned (blk s.ws 0) (blk s.ws 1) (j + 1) r) := by
          have := hsc'.out.next hj2 hF2'.out
          unfold better at this
          rwa [if_neg hlt] at this
        have hS5' := Hid.mk hS4
        have kk5' := Hid.mk kk4
        have hf' := Hid.mk hf
        clear hsc' hF2' fin hS4 kk4 hR4 hok2 ff2 hf
        go_wp2
        go_roundw
        case rel => exact ⟨j + 1, _, _, by go_num, by omega, hS5'.out, kk5'.out, hf'.out, hnx.out⟩
        case measure => simp [intOf]; omega

end Go.Proofs.Ythjdlbejfaejkaa
