/-
  readUnits and Open: the units of an area.
-/
import Derived.Test.YtdcjaopmfccgbaaRdU
namespace Go.Proofs.Ytdcjaopmfccgbaa
open Go.RowKit
set_option linter.unusedVariables false

/-- How many blocks a Log has taken, by its cell. -/
def usedAt (w : World) (p : Nat) : Nat := match w.cell? ⟨p, 5, none⟩ with
  | some (.int _ z) => z.toNat
  | _ => 0
theorem usedAt_of {w : World} {G : List Nat} {p q fr ct ep : Nat} {us : List (List UInt8)} {used : Nat} {over : Bool} (h : IsL w G p q fr ct ep us used over) : usedAt w p = used := by
  obtain ⟨-, -, -, -, c5, -⟩ := h.cells
  unfold usedAt
  rw [c5]
  simp
theorem len_tot : ∀ (us : List (List UInt8)), (∀ l ∈ us, l ≠ [] ∧ l.length ≤ 60000) → us.length ≤ tot us
  | [], _ => by simp
  | l :: t, h => by
    have := len_tot t (fun x hx => h x (by simp [hx]))
    have := bks_pos (List.length_pos_iff.2 (h l (by simp)).1)
    simp only [List.length_cons, tot]
    omega
theorem take_snoc_unit {us : List (List UInt8)} {k : Nat} {l : List UInt8} (h : us[k]? = some l) : us.take k ++ [l] = us.take (k + 1) := by rw [List.take_add_one, h]; rfl

set_option maxRecDepth 100000 in
set_option maxHeartbeats 400000 in
theorem readUnits_any {w : World} {F G : List Nat} {p q fr ct ep : Nat} {us : List (List UInt8)} {over : Bool} {s : St} (hD : IsD w F q s) (hL : IsL w G p q fr ct ep [] 0 over) (hFG : ∀ x ∈ F, x ∉ G) (hd : s.down = false) (ha : fr + ct ≤ s.nb) (hA : Ar s.ws fr ct ep us) :
    Calls Try.prog 24 #[.pointer (some ⟨p, 0, none⟩)] w fun e w' => e = .returned (.int .i64 0) ∧ ∃ G', IsL w' G' p q fr ct ep us (tot us) over ∧ Kept G w w' ∧ NewF w G G' := by
  have hlt := len_tot us hA.unit
  have hroom := hA.room
  have harea := hA.area
  have hnb := hD.ok.nb
  go_enter Try.func24, Try.ntmps24
  go_wp2_with fail
  go_loopw [3] (fun _ wr => ∃ (k : Nat) (G' : List Nat), k ≤ us.length ∧ IsL wr G' p q fr ct ep (us.take k) (tot (us.take k)) over ∧ Kept G w wr ∧ NewF w G G') (fun _ wr => ct - usedAt wr p)
  case atStart => exact ⟨0, G, Nat.zero_le _, hL, Kept.refl _ _, NewF.refl _ _⟩
  case round =>
    obtain ⟨k, G', hk, hLr, hK, hN⟩ := hrel
    have hDr := hD.kept hK hFG
    have htk := tot_take_le us k
    have hrd := rdu_any hDr hLr hd ha (by omega)
    have hus := usedAt_of hLr
    by_cases hlast : k < us.length
    · obtain ⟨l, hl⟩ : ∃ l, us[k]? = some l := ⟨us[k], by simp⟩
      rw [hA.read k l hl] at hrd
      have hm := hA.unit l (List.mem_of_getElem? hl)
      have hne : ((l.length : Int) == 0) = false := by simp; exact hm.1
      have hpos := bks_pos (List.length_pos_iff.2 hm.1)
      have htk1 := tot_take_le us (k + 1)
      rw [← take_snoc_unit hl, tot_snoc] at htk1
      go_wp2_with fail
      refine hrd.mono ?_
      rintro e w1 ⟨v1, rfl, hO1, k1, f1⟩
      obtain ⟨a1, c1, rfl⟩ := hO1.form
      have hL1 := hLr.kept k1 (by simp)
      have hadd := add_any hL1 a1 l.length c1 l hO1.reads rfl (fun g hg => ⟨hO1.lt hg, fun hm => by have := hLr.lt g hm; have := f1 g hg; omega⟩) (by rw [List.length_take]; omega) (by omega) (by omega)
      have HK : Hid (Kept G w w1) := (hK.trans k1 (by simp))
      clear hrd hDr hO1 hL1
      go_wp2_with fail
      refine hadd.mono ?_
      rintro e w2 ⟨rfl, G2, hL2, k2, n2⟩
      rw [take_snoc_unit hl, ← tot_snoc, take_snoc_unit hl] at hL2
      have hus2 := usedAt_of hL2
      rw [← take_snoc_unit hl, tot_snoc] at hus2
      have HK2 : Hid (Kept G w w2) := HK.out.trans k2 (fun x hx => hN x hx)
      have HN2 : Hid (NewF w G G2) := fun x hx => by
        rcases n2 x hx with h | h | h
        · exact hN x h
        · have := f1 x h; have := hK.size; exact .inr (by omega)
        · have := HK.out.size; exact .inr (by omega)
      have HL2 := Hid.mk hL2
      clear hadd hL2 k2 n2 HK
      go_wp2
      go_roundw
      case rel => exact ⟨k + 1, G2, by omega, HL2.out, HK2.out, HN2.out⟩
      case measure => rw [hus, hus2]; omega
    · have hk2 : us.take k = us := List.take_of_length_le (by omega)
      rw [hk2] at hrd hLr hus
      rw [hA.ends] at hrd
      go_wp2_with fail
      refine hrd.mono ?_
      rintro e w1 ⟨v1, rfl, hO1, k1, f1⟩
      obtain ⟨a1, c1, rfl⟩ := hO1.form
      have HL1 := Hid.mk (hLr.kept k1 (by simp))
      have HK : Hid (Kept G w w1) := (hK.trans k1 (by simp))
      have HN := Hid.mk hN
      clear hrd hDr hO1 hLr hN hK
      rw [show (([] : List UInt8).length) = 0 from rfl]
      go_wp2_with fail
      go_ret
      exact ⟨rfl, G', HL1.out, HK.out, HN.out⟩

theorem open_nil (fr ct : Int) (ep : Nat) (h : 1 ≤ ct) (h0 : 0 ≤ fr) (hf : fr < 9223372036854775808) (w : World) : Calls Try.prog 10 #[.pointer none, .int .i64 fr, .int .i64 ct, .int .u64 (ep : Int)] w fun e w' => e = .returned (.tuple #[.pointer none, .int .i64 1]) ∧ w = w' := by
  have h1 : ¬ ct < 1 := by omega
  have h2 : ¬ fr < 0 := by omega
  have h3 : (0 : Int) - fr < ct := by omega
  have hb := blocks_nil w
  go_enter Try.func10, Try.ntmps10
  go_wp2_with fail
  refine hb.mono ?_
  rintro e w1 ⟨rfl, rfl⟩
  go_wp2_with fail
  go_ret2
  exact ⟨rfl, rfl⟩
theorem open_arg {F : List Nat} {q : Nat} {s : St} {w : World} (hD : IsD w F q s) (fr ct : Int) (ep : Nat) (hf : fr < 9223372036854775808) (h : fr < 0 ∨ ct < 1 ∨ (s.nb : Int) - fr < ct) : Calls Try.prog 10 #[.pointer (some ⟨q, 0, none⟩), .int .i64 fr, .int .i64 ct, .int .u64 (ep : Int)] w fun e w' => e = .returned (.tuple #[.pointer none, .int .i64 1]) ∧ w = w' := by
  have hb := blocks_any hD
  have hnb := hD.ok.nb
  generalize s.nb = n at hb h hnb
  clear hD
  by_cases h2 : fr < 0
  · go_enter Try.func10, Try.ntmps10
    go_wp2_with fail
    go_ret2
    exact ⟨rfl, rfl⟩
  · by_cases h1 : ct < 1
    · go_enter Try.func10, Try.ntmps10
      go_wp2_with fail
      go_ret2
      exact ⟨rfl, rfl⟩
    · have h3 : (n : Int) - fr < ct := by omega
      go_enter Try.func10, Try.ntmps10
      go_wp2_with fail
      refine hb.mono ?_
      rintro e w1 ⟨rfl, rfl⟩
      go_wp2_with fail
      go_ret2
      exact ⟨rfl, rfl⟩

set_option maxRecDepth 100000 in
set_option maxHeartbeats 400000 in
/-- Open. -/
theorem open_ok {w : World} {F : List Nat} {q fr ct ep : Nat} {us : List (List UInt8)} {s : St} (hD : IsD w F q s) (hd : s.down = false) (hc : 1 ≤ ct) (ha : fr + ct ≤ s.nb) (hA : Ar s.ws fr ct ep us) :
    Calls Try.prog 10 #[.pointer (some ⟨q, 0, none⟩), .int .i64 (fr : Int), .int .i64 (ct : Int), .int .u64 (ep : Int)] w fun e w' => ∃ p, e = .returned (.tuple #[.pointer (some ⟨p, 0, none⟩), .int .i64 0]) ∧ ∃ G, IsL w' G p q fr ct ep us (tot us) false ∧ Kept [] w w' ∧ ∀ x ∈ G, w.heap.size ≤ x := by
  have hb := blocks_any hD
  have hnb := hD.ok.nb
  have hL0 := IsL.new w q fr ct ep
  have k0 := (Kept.refl [] w).alloc (.cells #[.pointer (some ⟨q, 0, none⟩), .int .i64 (fr : Int), .int .i64 (ct : Int), .int .u64 (ep : Int), .slice none 0 0, .int .i64 0, .bool false] 58)
  have hru := readUnits_any (hD.kept k0 (by simp)) hL0 (fun x hx => by have := hD.lt x hx; simp; omega) hd ha hA
  have h1 : ¬ (ct : Int) < 1 := by omega
  have h2 : ¬ (fr : Int) < 0 := by omega
  have h3 : ¬ (s.nb : Int) - (fr : Int) < (ct : Int) := by omega
  generalize s.nb = n at hb h3 hnb ha
  clear hD
  go_enter Try.func10, Try.ntmps10
  go_wp2_with fail
  refine hb.mono ?_
  rintro e w1 ⟨rfl, rfl⟩
  go_wp2_with fail
  refine hru.mono ?_
  rintro e w2 ⟨rfl, G2, hL2, k2, n2⟩
  have hK : Kept [] w w2 := k0.trans k2 (fun x hx => .inr (by simp at hx; omega))
  have hG : ∀ x ∈ G2, w.heap.size ≤ x := fun x hx => by
    rcases n2 x hx with h | h
    · simp at h; omega
    · simp at h; omega
  clear hru hL0 k0 k2 n2
  go_wp2_with fail
  go_ret2
  exact ⟨_, rfl, G2, hL2, hK, hG⟩
end Go.Proofs.Ytdcjaopmfccgbaa
