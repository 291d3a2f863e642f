/-
  write: the bytes of a list of pieces, by the program and by the document.
-/
import Derived.Test.YtkhgdeklgcafpabPieces
import Derived.Test.YtkhgdeklgcafpabOrdWalk
namespace Go.Proofs.Ytkhgdeklgcafpab
open Go.RowKit

/-- A Writer and the document's slice, side by side, with the same bytes, all in memory that is new since w0. -/
structure Both (w0 : World) (p : Nat) (vw bv : Value) (l : List UInt8) (w : World) : Prop where
  ours : IsW 44 5 w p vw l
  doc : Owns 5 w bv l
  ap1 : bv.ownBlock ≠ some p
  ap2 : ∀ g, vw.ownBlock = some g → bv.ownBlock ≠ some g
  newp : w0.heap.size ≤ p
  newv : Fresh w0 vw
  newb : Fresh w0 bv
  kept : Kept [] w0 w

/-- Behind the program's write the document's slice is as it was. -/
theorem Both.doc1 {w0 w w1 : World} {p : Nat} {vw bv : Value} {l l1 : List UInt8} (h : Both w0 p vw bv l w) (h1 : Laid 44 5 w p vw l1 w1) : Owns 5 w1 bv l := by
  obtain ⟨v1, -, k1, -⟩ := h1
  refine h.doc.kept k1 fun g hg hm => ?_
  rcases mem_foot.1 hm with rfl | hm
  · exact h.ap1 hg
  · exact h.ap2 g hm hg

theorem Both.kept1 {w0 w w1 : World} {p : Nat} {vw bv : Value} {l l1 : List UInt8} (h : Both w0 p vw bv l w) (h1 : Laid 44 5 w p vw l1 w1) : Kept [] w0 w1 := by
  obtain ⟨v1, -, k1, -⟩ := h1
  refine h.kept.trans k1 fun x hx => ?_
  rcases mem_foot.1 hx with rfl | hx
  · exact .inr h.newp
  · exact .inr (h.newv x hx)

theorem Both.step {w0 w w1 w2 : World} {p : Nat} {vw bv bv2 : Value} {l l1 : List UInt8} (h : Both w0 p vw bv l w) (h1 : Laid 44 5 w p vw l1 w1) (h2 : Grew 5 w1 bv l1 bv2 w2) : ∃ vw2, Both w0 p vw2 bv2 l1 w2 := by
  have hd := h.doc1 h1
  obtain ⟨v1, hW1, k1, n1⟩ := h1
  obtain ⟨hO, k2, n2⟩ := h2
  have s0 := h.kept.size
  have s1 := k1.size
  have hp := h.ours.lt
  have hne : ∀ g, v1.ownBlock = some g → bv.ownBlock ≠ some g := fun g hg hb => by
    rcases n1 g hg with h3 | h3
    · exact h.ap2 g h3 hb
    · have := h.doc.lt hb; omega
  refine ⟨v1, hW1.kept k2 ?_ ?_, hO, ?_, ?_, h.newp, ?_, ?_, ?_⟩
  · intro hm; rw [Option.mem_toList] at hm; exact h.ap1 hm
  · intro g hg hm; rw [Option.mem_toList] at hm; exact hne g hg hm
  · intro hb
    rcases n2 p hb with h3 | h3
    · exact h.ap1 h3
    · have := hW1.lt; omega
  · intro g hg hb
    rcases n2 g hb with h3 | h3
    · exact hne g hg h3
    · have := hW1.own.lt hg; omega
  · intro g hg
    rcases n1 g hg with h3 | h3
    · exact h.newv g h3
    · omega
  · intro g hg
    rcases n2 g hg with h3 | h3
    · exact h.newb g h3
    · omega
  · refine (h.kept.trans k1 fun x hx => ?_).trans k2 fun x hx => ?_
    · rcases mem_foot.1 hx with rfl | hx
      · exact .inr h.newp
      · exact .inr (h.newv x hx)
    · rw [Option.mem_toList] at hx
      exact .inr (h.newb x hx)

set_option maxHeartbeats 4000000 in
theorem write_any (v : Value) (l : List PieceD) (w : World) (hv : Holds w v l) (hh : heavy l ≤ 140737488355328) :
    Calls Try.prog 5 #[v] w fun e w' => ∃ x y, e = .returned (.tuple #[x, y]) ∧ Owns 5 w' x (encAll l) ∧ Owns 5 w' y (encAll l) ∧ Kept [] w w' ∧ Fresh w x ∧ Fresh w y := by
  obtain ⟨a, cap, rfl, h2, h3, h4, h5⟩ := hv
  unfold maxLen at h3
  go_enter Try.func5, Try.ntmps5
  go_wp2_with fail
  refine (newW _).mono ?_
  rintro e w1 ⟨p, rfl, hp1, hk1, hpp⟩
  have hB : Both w p (.slice none 0 0) (.slice none 0 0) [] w1 := ⟨hp1, Owns.nil 5 w1, by simp [Value.ownBlock], by simp [Value.ownBlock], hpp, by simp [Fresh, Value.ownBlock], by simp [Fresh, Value.ownBlock], hk1⟩
  clear hp1 hk1 hpp
  go_wp2_with fail
  go_loopw [5, 10] (fun bv i wr => ∃ (k : Nat) (vw : Value), k ≤ l.length ∧ i = .int .i64 (k : Int) ∧ Both w p vw bv (encAll (l.take k)) wr) (fun _ i _ => l.length - (intOf i).toNat)
  case atStart => exact ⟨0, .slice none 0 0, Nat.zero_le _, rfl, hB⟩
  case round =>
    obtain ⟨k, vw, hk, rfl, hBk⟩ := hrel
    clear hB
    by_cases hlt : k < l.length
    · obtain ⟨x, hx⟩ : ∃ x, l[k]? = some x := ⟨l[k], by simp⟩
      obtain ⟨b, o, hab, hcells⟩ := h5 (by intro h; subst h; simp at hlt)
      subst hab
      obtain ⟨c0, c1, c2⟩ := hcells k x hx
      have hxb := h4 x (List.mem_of_getElem? hx)
      obtain ⟨hx1, hx2, hx3⟩ := hxb
      have hlen := encAll_le (l.take k)
      have hhe := heavy_take l k x hx
      have HE : Hid (encAll (l.take (k + 1)) = encAll (l.take k) ++ encP x) := encAll_take l k x hx
      have hc0 : wr.cell? ⟨b, o + k * 3, none⟩ = some (.int .i64 x.kind) := by rw [hBk.kept.cell (World.block_lt_of_cell? w _ c0) (by simp)]; exact c0
      have hc1 : wr.cell? ⟨b, o + k * 3 + 1, none⟩ = some (.int .u64 (x.n : Int)) := by rw [hBk.kept.cell (World.block_lt_of_cell? w _ c1) (by simp)]; exact c1
      have hc2 : wr.cell? ⟨b, o + k * 3 + 2, none⟩ = some (.string x.s) := by rw [hBk.kept.cell (World.block_lt_of_cell? w _ c2) (by simp)]; exact c2
      have hlt' : (k : Int) < (l.length : Int) := by omega
      generalize encAll (l.take k) = L at hBk hlen HE
      clear h5 hcells
      by_cases hk1 : x.kind = 1
      · have t1 : (x.kind == 1) = true := by simp [hk1]
        have HP : Hid (encP x = enc x.n) := by show _ = _; unfold encP; rw [if_pos hk1]
        go_wp2_with fail
        refine (wnum_any p vw L x.n _ hBk.ours hx1 (by omega)).mono ?_
        rintro e w4 ⟨rfl, hL4⟩
        have hd4 := hBk.doc1 hL4
        have hc4 := (hBk.kept1 hL4).cell (World.block_lt_of_cell? w _ c1) (by simp)
        rw [c1] at hc4
        go_wp2_with fail
        refine (refnum_any u5 L x.n _ hd4 hx1 (by omega)).mono ?_
        rintro e w5 ⟨bv5, rfl, hG5⟩
        obtain ⟨vw5, hB5⟩ := hBk.step hL4 hG5
        clear hL4 hG5 hd4 hc4 hBk hc0 hc1 hc2 c0 c1 c2
        go_wp2_with fail
        go_roundw
        case rel => exact ⟨k + 1, vw5, by omega, by go_num, by rw [HE.out, HP.out]; exact hB5⟩
        case measure => simp [intOf]; omega
      by_cases hk2 : x.kind = 2
      · have t1 : (x.kind == 1) = false := by simp [hk1]
        have t2 : (x.kind == 2) = true := by simp [hk2]
        have hwb : -9223372036854775808 ≤ wrap64 (x.n : Int) ∧ wrap64 (x.n : Int) ≤ 9223372036854775807 := by unfold wrap64; omega
        have HP : Hid (encP x = enc (fold (wrap64 (x.n : Int)))) := by show _ = _; unfold encP; rw [if_neg hk1, if_pos hk2]
        go_wp2_with fail
        refine (wint_any p vw L (wrap64 (x.n : Int)) _ hBk.ours hwb.1 hwb.2 (by omega)).mono ?_
        rintro e w4 ⟨rfl, hL4⟩
        have hd4 := hBk.doc1 hL4
        have hc4 := (hBk.kept1 hL4).cell (World.block_lt_of_cell? w _ c1) (by simp)
        rw [c1] at hc4
        go_wp2_with fail
        refine (refint_any u5 L (wrap64 (x.n : Int)) _ hd4 hwb.1 hwb.2 (by omega)).mono ?_
        rintro e w5 ⟨bv5, rfl, hG5⟩
        obtain ⟨vw5, hB5⟩ := hBk.step hL4 hG5
        clear hL4 hG5 hd4 hc4 hBk hc0 hc1 hc2 c0 c1 c2
        go_wp2_with fail
        go_roundw
        case rel => exact ⟨k + 1, vw5, by omega, by go_num, by rw [HE.out, HP.out]; exact hB5⟩
        case measure => simp [intOf]; omega
      · have t1 : (x.kind == 1) = false := by simp [hk1]
        have t2 : (x.kind == 2) = false := by simp [hk2]
        have HP : Hid (encP x = enc x.s.size ++ x.s.data.toList) := by show _ = _; unfold encP; rw [if_neg hk1, if_neg hk2]
        go_wp2_with fail
        refine (wtext_any p vw L x.s _ hBk.ours (by omega)).mono ?_
        rintro e w4 ⟨rfl, hL4⟩
        have hd4 := hBk.doc1 hL4
        have hc4 := (hBk.kept1 hL4).cell (World.block_lt_of_cell? w _ c2) (by simp)
        rw [c2] at hc4
        go_wp2_with fail
        refine (reftext_any u5 L x.s _ hd4 (by omega)).mono ?_
        rintro e w5 ⟨bv5, rfl, hG5⟩
        obtain ⟨vw5, hB5⟩ := hBk.step hL4 hG5
        clear hL4 hG5 hd4 hc4 hBk hc0 hc1 hc2 c0 c1 c2
        go_wp2_with fail
        go_roundw
        case rel => exact ⟨k + 1, vw5, by omega, by go_num, by rw [HE.out, HP.out, ← List.append_assoc]; exact hB5⟩
        case measure => simp [intOf]; omega
    · have hge : ¬ (k : Int) < (l.length : Int) := by omega
      have HT : Hid (encAll (l.take k) = encAll l) := by show _ = _; rw [List.take_of_length_le (by omega)]
      have hlen := encAll_le l
      rw [HT.out] at hBk
      clear h5
      go_wp2_with fail
      refine (wbytes_any p vw _ _ hBk.ours (by omega)).mono ?_
      rintro e w4 ⟨v4, rfl, hO4, hk4, hf4⟩
      have hd4 := hBk.doc.kept hk4 (by simp)
      have s1 := hBk.kept.size
      have hfin := hBk.kept.trans hk4 (by simp)
      have hnb := hBk.newb
      clear hBk hk4
      go_wp2_with fail
      go_ret2
      exact ⟨v4, u5, rfl, hO4, hd4, hfin, fun g hg => by have := hf4 g hg; omega, hnb⟩

end Go.Proofs.Ytkhgdeklgcafpab
