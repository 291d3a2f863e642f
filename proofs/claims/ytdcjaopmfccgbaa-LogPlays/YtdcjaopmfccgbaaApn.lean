/-
  Append; a disk and a Log of it, side by side, in the words of the units.
-/
import Derived.Test.YtdcjaopmfccgbaaWrU
namespace Go.Proofs.Ytdcjaopmfccgbaa
open Go.RowKit
set_option linter.unusedVariables false

/-- A disk at q and a Log of it at p, in whose area the units us lie. -/
def Lg (w : World) (H : List Nat) (q : Nat) (s : St) (p fr ct ep : Nat) (us : List (List UInt8)) (over : Bool) : Prop :=
  ∃ F G, H = F ++ G ∧ IsD w F q s ∧ IsL w G p q fr ct ep us (tot us) over ∧ (∀ x ∈ F, x ∉ G) ∧ Ar s.ws fr ct ep us ∧ fr + ct ≤ s.nb ∧ 1 ≤ ct
section
variable {w w' : World} {H S : List Nat} {q : Nat} {s : St} {p fr ct ep : Nat} {us : List (List UInt8)} {over : Bool}
theorem Lg.kept (h : Lg w H q s p fr ct ep us over) (k : Kept S w w') (hn : ∀ x ∈ H, x ∉ S) : Lg w' H q s p fr ct ep us over := by
  obtain ⟨F, G, rfl, hD, hL, h3, h4, h5, h6⟩ := h
  exact ⟨F, G, rfl, hD.kept k (fun x hx => hn x (by simp [hx])), hL.kept k (fun x hx => hn x (by simp [hx])), h3, h4, h5, h6⟩
theorem Lg.lt (h : Lg w H q s p fr ct ep us over) : ∀ x ∈ H, x < w.heap.size := by
  obtain ⟨F, G, rfl, hD, hL, h3, h4, h5, h6⟩ := h
  intro x hx
  rcases List.mem_append.1 hx with h | h
  · exact hD.lt x h
  · exact hL.lt x h
theorem Lg.len (h : Lg w H q s p fr ct ep us over) : us.length ≤ 65536 ∧ (∀ l ∈ us, l.length ≤ 60000) ∧ tot us ≤ ct ∧ ct ≤ 65536 := by
  obtain ⟨F, G, rfl, hD, hL, h3, h4, h5, h6⟩ := h
  have := len_tot us h4.unit
  have := h4.room
  have := h4.area
  exact ⟨by omega, fun l hl => (h4.unit l hl).2, by omega, by omega⟩
theorem append_over (h : Lg w H q s p fr ct ep us true) (v : Value) : Calls Try.prog 14 #[.pointer (some ⟨p, 0, none⟩), v] w fun e w' => e = .returned (.int .i64 9) ∧ w = w' := by
  obtain ⟨F, G, rfl, hD, hL, h3, h4, h5, h6⟩ := h
  obtain ⟨c0, c1, c2, c3, c5, c6⟩ := hL.cells
  clear hD hL h3 h4 h5 h6
  go_enter Try.func14, Try.ntmps14
  go_wp2
  go_ret
  exact ⟨rfl, rfl⟩
theorem append_empty (h : Lg w H q s p fr ct ep us false) (a : Option Addr) (c : Nat) : Calls Try.prog 14 #[.pointer (some ⟨p, 0, none⟩), .slice a 0 c] w fun e w' => e = .returned (.int .i64 1) ∧ w = w' := by
  obtain ⟨F, G, rfl, hD, hL, h3, h4, h5, h6⟩ := h
  obtain ⟨c0, c1, c2, c3, c5, c6⟩ := hL.cells
  clear hD hL h3 h4 h5 h6
  go_enter Try.func14, Try.ntmps14
  go_wp2
  go_ret
  exact ⟨rfl, rfl⟩
theorem append_long (h : Lg w H q s p fr ct ep us false) (a : Option Addr) (n c : Nat) (hn : 60000 < n) : Calls Try.prog 14 #[.pointer (some ⟨p, 0, none⟩), .slice a n c] w fun e w' => e = .returned (.int .i64 4) ∧ w = w' := by
  obtain ⟨F, G, rfl, hD, hL, h3, h4, h5, h6⟩ := h
  obtain ⟨c0, c1, c2, c3, c5, c6⟩ := hL.cells
  have h0 : ((n : Int) == 0) = false := by simp; omega
  have h1 : (60000 : Int) < (n : Int) := by omega
  clear hD hL h3 h4 h5 h6
  go_enter Try.func14, Try.ntmps14
  go_wp2
  go_ret
  exact ⟨rfl, rfl⟩
theorem append_full (h : Lg w H q s p fr ct ep us false) (a : Option Addr) (n c : Nat) (hn0 : 0 < n) (hn : n ≤ 60000) (hf : ct < tot us + bks n) : Calls Try.prog 14 #[.pointer (some ⟨p, 0, none⟩), .slice a n c] w fun e w' => e = .returned (.int .i64 6) ∧ Kept [] w w' := by
  have hlen := h.len
  obtain ⟨F, G, rfl, hD, hL, h3, h4, h5, h6⟩ := h
  obtain ⟨c0, c1, c2, c3, c5, c6⟩ := hL.cells
  have h0 : ((n : Int) == 0) = false := by simp; omega
  have h1 : ¬ (60000 : Int) < (n : Int) := by omega
  have h2 : (ct : Int) - (tot us : Int) < (bks n : Int) := by omega
  have hro := room_any hL (by omega) hlen.2.2.1
  clear hD hL h3 h4 h5 h6
  have hbk := fun W => bks_any n (by omega) W
  generalize bks n = B at hbk h2 hf
  generalize tot us = T at hro h2 hf hlen c5
  go_enter Try.func14, Try.ntmps14
  go_wp2_with fail
  refine hro.mono ?_
  rintro e w1 ⟨rfl, k1⟩
  go_wp2_with fail
  refine (hbk w1).mono ?_
  rintro e w2 ⟨rfl, rfl⟩
  go_wp2_with fail
  go_ret
  exact ⟨rfl, k1⟩
/-- What Append answers and leaves, where there is room. -/
def Appended (s : St) (fr ct ep : Nat) (us : List (List UInt8)) (l : List UInt8) (H : List Nat) (q p : Nat) (w : World) (e : Ending) (w' : World) : Prop :=
  (e = .returned (.int .i64 0) ∧ (s.fuse < 0 ∨ (bks l.length : Int) ≤ s.fuse) ∧ ∃ H', Lg w' H' q (sj s fr ep (tot us) l (bks l.length)) p fr ct ep (us ++ [l]) false ∧ Kept H w w' ∧ NewF w H H') ∨
  (∃ j, j < bks l.length ∧ s.fuse = (j : Int) ∧ e = .returned (.int .i64 9) ∧ ∃ H', Lg w' H' q { sj s fr ep (tot us) l j with down := true } p fr ct ep us true ∧ Kept H w w' ∧ NewF w H H')
set_option maxRecDepth 100000 in
set_option maxHeartbeats 400000 in
/-- Append, where there is room. -/
theorem append_any (h : Lg w H q s p fr ct ep us false) (a : Option Addr) (n c : Nat) (l : List UInt8) (hr : Reads w (.slice a n c) l) (hl : l.length = n) (hv : ∀ g, (Value.slice a n c).ownBlock = some g → g ∉ H) (hn0 : 0 < n) (hn : n ≤ 60000) (hf : tot us + bks n ≤ ct) (hd : s.down = false) (hws : s.ws.length ≤ 30000) :
    Calls Try.prog 14 #[.pointer (some ⟨p, 0, none⟩), .slice a n c] w fun e w' => Appended s fr ct ep us l H q p w e w' := by
  have hlen := h.len
  have hHlt := h.lt
  obtain ⟨F, G, rfl, hD, hL, hFG, hA, ha, h6⟩ := h
  obtain ⟨c0, c1, c2, c3, c5, c6⟩ := hL.cells
  have h0 : ((n : Int) == 0) = false := by simp; omega
  have h1 : ¬ (60000 : Int) < (n : Int) := by omega
  have h2 : ¬ (ct : Int) - (tot us : Int) < (bks n : Int) := by omega
  have hro := room_any hL (by omega) hlen.2.2.1
  have hbk := fun W => bks_any n (by omega) W
  have hvlt : ∀ g, (Value.slice a n c).ownBlock = some g → g < w.heap.size := fun g hg => by
    obtain ⟨k, h1, h2⟩ := hr.lt (by intro e; subst e; simp at hl; omega)
    rw [h1] at hg
    injection hg with hg
    omega
  have hne : l ≠ [] := by intro e; subst e; simp at hl; omega
  have hwu := fun W (k : Kept [] w W) => writeUnit_any (hD.kept k (by simp)) (hL.kept k (by simp)) hFG hd ha hA.epoch a n c l (hr.kept k (by simp)) hl (fun g hg hm => hv g hg (by simp [hm])) (fun g hg => Nat.lt_of_lt_of_le (hvlt g hg) k.size) (by omega) hws
  have fin0 : ∀ w', (s.fuse < 0 ∨ (bks l.length : Int) ≤ s.fuse) → (∃ H', Lg w' H' q (sj s fr ep (tot us) l (bks l.length)) p fr ct ep (us ++ [l]) false ∧ Kept (F ++ G) w w' ∧ NewF w (F ++ G) H') → Appended s fr ct ep us l (F ++ G) q p w (.returned (.int .i64 0)) w' := fun w' h1 h2 => .inl ⟨rfl, h1, h2⟩
  have fin9 : ∀ j w', j < bks l.length → s.fuse = (j : Int) → (∃ H', Lg w' H' q { sj s fr ep (tot us) l j with down := true } p fr ct ep us true ∧ Kept (F ++ G) w w' ∧ NewF w (F ++ G) H') → Appended s fr ct ep us l (F ++ G) q p w (.returned (.int .i64 9)) w' := fun j w' h1 h2 h3 => .inr ⟨j, h1, h2, rfl, h3⟩
  generalize Appended s fr ct ep us l (F ++ G) q p w = R at fin0 fin9
  obtain ⟨B, hB⟩ : ∃ B, Hid (bks n = B) := ⟨_, rfl⟩
  rw [hB.out] at hbk h2 hf
  obtain ⟨T, hT⟩ : ∃ T, Hid (tot us = T) := ⟨_, rfl⟩
  rw [hT.out] at hro h2 hf hlen c5
  have Fin0 := Hid.mk fin0
  have Fin9 := Hid.mk fin9
  clear fin0 fin9
  go_enter Try.func14, Try.ntmps14
  go_wp2_with fail
  refine hro.mono ?_
  rintro e w1 ⟨rfl, k1⟩
  have hwu1 := hwu w1 k1
  clear hwu hro
  go_wp2_with fail
  refine (hbk w1).mono ?_
  rintro e w2 ⟨rfl, rfl⟩
  clear hbk c0 c1 c2 c3 c5 c6
  go_wp2_with fail
  refine hwu1.mono ?_
  clear hwu1
  rintro e w2 (⟨rfl, hfu, F', hD2, k2, n2⟩ | ⟨j, hj, hfu, rfl, F', hD2, k2, n2⟩)
  · have kk2 : Kept F w w2 := (k1.mono (by simp)).trans k2 (fun x hx => .inl hx)
    have nn2 : NewF w F F' := fun x hx => by
      rcases n2 x hx with h | h
      · exact .inl h
      · exact .inr (Nat.le_trans k1.size h)
    have hL2 := hL.kept kk2 (fun x hx hm => hFG x hm hx)
    have hr2 := hr.kept kk2 (fun g hg hm => hv g hg (by simp [hm]))
    have hFG2 : ∀ x ∈ F', x ∉ G := fun x hx hg => by
      rcases nn2 x hx with h | h
      · exact hFG x h hg
      · have := hL.lt x hg; omega
    have hcl := clone_any _ l w2 hr2 (by omega)
    have hA2 : Ar (sj s fr ep (tot us) l (bks l.length)).ws fr ct ep (us ++ [l]) := hA.done l (by have := hT.out; have := hB.out; rw [hl]; omega) hne (by omega)
    have HA := Hid.mk hA2
    have HF := Hid.mk hfu
    clear hA2 hfu k2 n2 k1 hr2 Fin9
    go_wp2_with fail
    refine hcl.mono ?_
    rintro e w3 ⟨v3, rfl, hO3, k3, f3⟩
    obtain ⟨a3, c3, hv3⟩ := hO3.form
    rw [hl] at hv3
    subst hv3
    have hL3 := hL2.kept k3 (by simp)
    have hadd := add_any hL3 a3 n c3 l hO3.reads hl (fun g hg => ⟨hO3.lt hg, fun hm => by have := hL2.lt g hm; have := f3 g hg; omega⟩) (by omega) (by have := hT.out; omega) (by omega)
    rw [← tot_snoc] at hadd
    clear hcl
    go_wp2_with fail
    refine hadd.mono ?_
    rintro e w4 ⟨rfl, G', hL4, k4, n4⟩
    have hD4 := (hD2.kept k3 (by simp)).kept k4 hFG2
    have hFG4 : ∀ x ∈ F', x ∉ G' := fun x hx hg => by
      have hxl := hD2.lt x hx
      rcases n4 x hg with h | h | h
      · exact hFG2 x hx h
      · have := f3 x h; omega
      · have := k3.size; omega
    have kk4 : Kept (F ++ G) w w4 := ((kk2.mono (fun x hx => .inl (by simp [hx]))).trans k3 (by simp)).trans k4 (fun x hx => .inl (by simp [hx]))
    have nn4 : NewF w (F ++ G) (F' ++ G') := fun x hx => by
      have h23 : w.heap.size ≤ w3.heap.size := Nat.le_trans kk2.size k3.size
      rcases List.mem_append.1 hx with h | h
      · rcases nn2 x h with h | h
        · exact .inl (by simp [h])
        · exact .inr h
      · rcases n4 x h with h | h | h
        · exact .inl (by simp [h])
        · have := f3 x h; have := kk2.size; exact .inr (by omega)
        · exact .inr (by omega)
    have fin := Hid.mk (Fin0.out w4 HF.out ⟨F' ++ G', ⟨F', G', rfl, hD4, hL4, hFG4, HA.out, ha, h6⟩, kk4, nn4⟩)
    clear hadd Fin0 hL4 k4 n4 hD4 kk4 nn4 hL3 hO3 hL2 hD2 hD hL
    go_wp2_with fail
    exact fin.out
  · have kk2 : Kept F w w2 := (k1.mono (by simp)).trans k2 (fun x hx => .inl hx)
    have nn2 : NewF w F F' := fun x hx => by
      rcases n2 x hx with h | h
      · exact .inl h
      · exact .inr (Nat.le_trans k1.size h)
    have hL2 := hL.kept kk2 (fun x hx hm => hFG x hm hx)
    have hFG2 : ∀ x ∈ F', x ∉ G := fun x hx hg => by
      rcases nn2 x hx with h | h
      · exact hFG x h hg
      · have := hL.lt x hg; omega
    obtain ⟨d0, d1, d2, d3, d5, d6⟩ := hL2.cells
    have f6 := hL2.free 6
    obtain ⟨hL3, k3⟩ := hL2.setOver true
    have hpF : p ∉ F' := fun h => hFG2 p h hL.pG
    have hD3 := hD2.kept k3 (fun x hx => by simp; intro e; subst e; exact hpF hx)
    have hA2 : Ar (s.ws ++ uws fr ep (tot us) l j) fr ct ep us := hA.put l (by have := hT.out; have := hB.out; rw [hl]; omega) j hj
    have fin := Hid.mk (Fin9.out j _ hj hfu ⟨F' ++ G, ⟨F', G, rfl, hD3, hL3, hFG2, hA2, ha, h6⟩, (kk2.mono (fun x hx => .inl (by simp [hx]))).trans k3 (fun x hx => .inl (by simp at hx; rw [hx]; simp [hL.pG])), fun x hx => by
      rcases List.mem_append.1 hx with h | h
      · rcases nn2 x h with h | h
        · exact .inl (by simp [h])
        · exact .inr h
      · exact .inl (by simp [h])⟩)
    clear Fin0 Fin9 hL3 hD3 k3 hL2 hD2 hD hL d0 d1 d2 d3 d5
    go_wp2_with fail
    exact fin.out
end
end Go.Proofs.Ytdcjaopmfccgbaa
