/-
  CodecBack: the walk.
-/
import Derived.Test.YtkhgdeklgcafpaaWrite
import Derived.Test.YtkhgdeklgcafpaaRefR2
namespace Go.Proofs.Ytkhgdeklgcafpaa
open Go.RowKit
attribute [local go_sem ↓] Go.wp_at_zero Go.wp_at_succ

/-- A Reader, all in memory that is new since w0, that has the bytes l left. -/
structure Reading (w0 : World) (p : Nat) (v : Value) (l : List UInt8) (w : World) : Prop where
  r : IsR 58 w p v l false
  newp : w0.heap.size ≤ p
  kept : Kept [] w0 w

theorem Reading.step {w0 w w1 : World} {p : Nat} {v : Value} {l l1 : List UInt8} (h : Reading w0 p v l w) (h1 : Rest 58 w p v l1 false w1) : ∃ v1, Reading w0 p v1 l1 w1 := by
  obtain ⟨v1, hR, k1, -⟩ := h1
  exact ⟨v1, hR, h.newp, h.kept.trans k1 (by simpa using h.newp)⟩

theorem Reading.drew {w0 w : World} {p : Nat} {v : Value} {l : List UInt8} (h : Reading w0 p v l w) : Reading w0 p v l w.drew := ⟨h.r.drew, h.newp, h.kept.drew⟩

set_option maxHeartbeats 4000000 in
theorem back_walk (v : Value) (l : List PieceD) (w : World) (hv : Holds w v l) (hh : heavy l ≤ 140737488355328) :
    Calls Try.prog 5 #[v] w fun e w' => e = .returned (.bool true) ∧ Kept [] w w' := by
  have hlen := encAll_le l
  go_enter Try.func5, Try.ntmps5
  go_wp2_with fail
  refine (awake_any _).mono ?_
  rintro e w1 ⟨rfl, hk1⟩
  go_wp2_with fail
  refine (write_any v l _ (hv.kept hk1) hh).mono ?_
  rintro e w2 ⟨x, y, rfl, hx, -, hk2, -, -⟩
  have hw2 := hk1.trans hk2 (by simp)
  go_wp2_with fail
  refine (newr_any x _ _ hx.reads (by omega)).mono ?_
  rintro e w3 ⟨p, vr, rfl, hr3, hk3, -, hpp⟩
  have s2 := hw2.size
  have hR : Reading w p vr (encAll l) w3 := ⟨hr3, by omega, hw2.trans hk3 (by simp)⟩
  obtain ⟨a, cap, rfl, h2, h3, h4, h5⟩ := hv
  unfold maxLen at h3
  clear hr3 hk1 hk2 hk3 hw2 hx hpp s2 hlen
  go_wp2_with fail
  go_loopw [18] (fun i wr => ∃ (k : Nat) (vk : Value), k ≤ l.length ∧ i = .int .i64 (k : Int) ∧ Reading w p vk (encAll (l.drop k)) wr) (fun i _ => l.length - (intOf i).toNat)
  case atStart => exact ⟨0, vr, Nat.zero_le _, rfl, hR⟩
  case round =>
    obtain ⟨k, vk, hk, rfl, hRk⟩ := hrel
    clear hR
    by_cases hlt : k < l.length
    · obtain ⟨x, hx⟩ : ∃ x, l[k]? = some x := ⟨l[k], by simp⟩
      obtain ⟨b, o, hab, hcells⟩ := h5 (by intro h; subst h; simp at hlt)
      subst hab
      obtain ⟨c0, c1, c2⟩ := hcells k x hx
      have hxb := h4 x (List.mem_of_getElem? hx)
      obtain ⟨hx1, hx2, hx3⟩ := hxb
      have hhe := heavy_take l k x hx
      rw [encAll_drop l k x hx] at hRk
      obtain ⟨rest, HR⟩ : ∃ rest, Hid (encAll (l.drop (k + 1)) = rest) := ⟨_, rfl⟩
      rw [HR.out] at hRk
      have hc0 : wr.cell? ⟨b, o + k * 3, none⟩ = some (.int .i64 x.kind) := by rw [hRk.kept.cell (World.block_lt_of_cell? w _ c0) (by simp)]; exact c0
      have hc1 : wr.cell? ⟨b, o + k * 3 + 1, none⟩ = some (.int .u64 (x.n : Int)) := by rw [hRk.kept.cell (World.block_lt_of_cell? w _ c1) (by simp)]; exact c1
      have hc2 : wr.cell? ⟨b, o + k * 3 + 2, none⟩ = some (.string x.s) := by rw [hRk.kept.cell (World.block_lt_of_cell? w _ c2) (by simp)]; exact c2
      have hlt0 : (0 : Int) ≤ (k : Int) := by omega
      have hlt' : (k : Int) < (l.length : Int) := by omega
      clear h5 hcells
      by_cases hk1 : x.kind = 1
      · have t1 : (x.kind == 1) = true := by simp [hk1]
        rw [show encP x = enc x.n by unfold encP; rw [if_pos hk1]] at hRk
        have hnum := rnum_any p vk _ false wr.drew hRk.r.drew
        rw [rnum_back x.n hx1 rest] at hnum
        clear hk1
        go_wp2_with fail
        go_region_with (first | (go_at_call 13; refine hnum.mono ?_; rintro e w4 ⟨rfl, hR4⟩; obtain ⟨v4, hR5⟩ := hRk.drew.step hR4; have hc4 : w4.cell? ⟨b, o + k * 3 + 1, none⟩ = some (.int .u64 (x.n : Int)) := by (rw [hR5.kept.cell (World.block_lt_of_cell? w _ c1) (by simp)]; exact c1)))
        all_goals
          clear hnum hR4 hRk hc0 hc1 hc2 c0 c1 c2 hc4
          go_wp2_with fail
          go_roundw
          case rel => exact ⟨k + 1, v4, by omega, by go_num, by rw [HR.out]; exact hR5⟩
          case measure => simp [intOf]; omega
      by_cases hk2 : x.kind = 2
      · have t1 : (x.kind == 1) = false := by simp [hk1]
        have t2 : (x.kind == 2) = true := by simp [hk2]
        have hwb : -9223372036854775808 ≤ wrap64 (x.n : Int) ∧ wrap64 (x.n : Int) ≤ 9223372036854775807 := by unfold wrap64; omega
        rw [show encP x = enc (fold (wrap64 (x.n : Int))) by unfold encP; rw [if_neg hk1, if_pos hk2]] at hRk
        have hnum := rint_any p vk _ false wr.drew hRk.r.drew
        rw [rnum_back _ (fold_lt _ hwb.1 hwb.2) rest, unfold_fold, show wrap64 (x.n : Int) = IntKind.i64.wrap (x.n : Int) by rw [IntKind.wrap_i64]; unfold wrap64; omega] at hnum
        clear hk1 hk2 hwb
        go_wp2_with fail
        go_region_with (first | (go_at_call 15; refine hnum.mono ?_; rintro e w4 ⟨rfl, hR4⟩; obtain ⟨v4, hR5⟩ := hRk.drew.step hR4; have hc4 : w4.cell? ⟨b, o + k * 3 + 1, none⟩ = some (.int .u64 (x.n : Int)) := by (rw [hR5.kept.cell (World.block_lt_of_cell? w _ c1) (by simp)]; exact c1)))
        all_goals
          clear hnum hR4 hRk hc0 hc1 hc2 c0 c1 c2 hc4
          go_wp2_with fail
          go_roundw
          case rel => exact ⟨k + 1, v4, by omega, by go_num, by rw [HR.out]; exact hR5⟩
          case measure => simp [intOf]; omega
      · have t1 : (x.kind == 1) = false := by simp [hk1]
        have t2 : (x.kind == 2) = false := by simp [hk2]
        have hsl : x.s.data.toList.length = x.s.size := by simp
        rw [show encP x = enc x.s.size ++ x.s.data.toList by unfold encP; rw [if_neg hk1, if_neg hk2], List.append_assoc, ← hsl] at hRk
        have hnum := rtext_any p vk _ false wr.drew hRk.r.drew
        have hmk : (⟨x.s.data.toList.toArray⟩ : ByteArray) = x.s := by cases x.s; simp
        rw [rtext_back _ (by omega) rest] at hnum
        simp only [hmk] at hnum
        clear hk1 hk2 hsl hmk
        go_wp2_with fail
        go_region_with (first | (go_at_call 17; refine hnum.mono ?_; rintro e w4 ⟨rfl, hR4⟩; obtain ⟨v4, hR5⟩ := hRk.drew.step hR4; have hc4 : w4.cell? ⟨b, o + k * 3 + 2, none⟩ = some (.string x.s) := by (rw [hR5.kept.cell (World.block_lt_of_cell? w _ c2) (by simp)]; exact c2)))
        all_goals
          clear hnum hR4 hRk hc0 hc1 hc2 c0 c1 c2 hc4
          go_wp2_with fail
          go_roundw
          case rel => exact ⟨k + 1, v4, by omega, by go_num, by rw [HR.out]; exact hR5⟩
          case measure => simp [intOf]; omega
    · have hge : ¬ (k : Int) < (l.length : Int) := by omega
      have HT : Hid (encAll (l.drop k) = []) := by show _ = _; rw [List.drop_of_length_le (by omega)]; rfl
      rw [HT.out] at hRk
      have hfin := hRk.kept
      have hr := hRk.r
      clear h5 hRk
      go_wp2_with (first | (go_at_call 21; refine (end_any p vk [] false _ hr).mono ?_; rintro e w4 ⟨rfl, rfl⟩) | (go_at_call 19; refine (bad_any p vk [] false _ hr).mono ?_; rintro e w4 ⟨rfl, rfl⟩) | (go_at_call 20; refine (left_any p vk [] false _ hr).mono ?_; rintro e w4 ⟨rfl, rfl⟩))
      go_ret
      exact ⟨rfl, hfin⟩

end Go.Proofs.Ytkhgdeklgcafpaa
