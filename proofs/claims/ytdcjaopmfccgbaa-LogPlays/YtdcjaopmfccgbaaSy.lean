/-
  A disk and its Log beside the caller's own memory: the calls in the words of the units.
-/
import Derived.Test.YtdcjaopmfccgbaaLaw2
namespace Go.Proofs.Ytdcjaopmfccgbaa
open Go.RowKit
set_option linter.unusedVariables false

/-- What has turned between w and w' is none of X. -/
def KX (X : List Nat) (w w' : World) : Prop := ∃ S, Kept S w w' ∧ ∀ x ∈ X, x ∉ S
theorem KX.of {X : List Nat} {w w' : World} (k : Kept [] w w') : KX X w w' := ⟨[], k, by simp⟩
/-- The Log at p of the disk at q, made since w0, in no block of X. -/
def Sy (w0 w : World) (q p : Nat) (s : St) (fr ct ep : Nat) (us : List (List UInt8)) (over : Bool) (X : List Nat) : Prop :=
  ∃ H, Lg w H q s p fr ct ep us over ∧ Kept [] w0 w ∧ ∀ x ∈ H, w0.heap.size ≤ x ∧ x ∉ X
section
variable {w0 w w' : World} {q p : Nat} {s : St} {fr ct ep : Nat} {us : List (List UInt8)} {over : Bool} {X Y : List Nat}
theorem Sy.k (h : Sy w0 w q p s fr ct ep us over X) : Kept [] w0 w := by obtain ⟨_, _, h, _⟩ := h; exact h
theorem Sy.len (h : Sy w0 w q p s fr ct ep us over X) : us.length ≤ 65536 ∧ (∀ l ∈ us, l.length ≤ 60000) ∧ tot us ≤ ct ∧ ct ≤ 65536 := by obtain ⟨_, h, _, _⟩ := h; exact h.len
theorem Sy.kept (h : Sy w0 w q p s fr ct ep us over X) (k : Kept [] w w') : Sy w0 w' q p s fr ct ep us over X := by
  obtain ⟨H, h1, h2, h3⟩ := h
  exact ⟨H, h1.kept k (by simp), h2.trans k (by simp), h3⟩
/-- More blocks of the caller's, that are new. -/
theorem Sy.more (h : Sy w0 w q p s fr ct ep us over X) (k : Kept [] w w') (hY : ∀ y ∈ Y, w.heap.size ≤ y) : Sy w0 w' q p s fr ct ep us over (Y ++ X) := by
  obtain ⟨H, h1, h2, h3⟩ := h
  refine ⟨H, h1.kept k (by simp), h2.trans k (by simp), fun x hx => ⟨(h3 x hx).1, fun hm => ?_⟩⟩
  rcases List.mem_append.1 hm with h | h
  · have := hY x h; have := h1.lt x hx; omega
  · exact (h3 x hx).2 h
theorem Sy.less (h : Sy w0 w q p s fr ct ep us over X) (hY : ∀ y ∈ Y, y ∈ X) : Sy w0 w q p s fr ct ep us over Y := by
  obtain ⟨H, h1, h2, h3⟩ := h
  exact ⟨H, h1, h2, fun x hx => ⟨(h3 x hx).1, fun hm => (h3 x hx).2 (hY x hm)⟩⟩
/-- The caller turns blocks of its own. -/
theorem Sy.turn (h : Sy w0 w q p s fr ct ep us over X) {S : List Nat} (k : Kept S w w') (hS : ∀ x ∈ S, x ∈ X ∨ w.heap.size ≤ x) (h0 : ∀ x ∈ S, w0.heap.size ≤ x) : Sy w0 w' q p s fr ct ep us over X := by
  obtain ⟨H, h1, h2, h3⟩ := h
  refine ⟨H, h1.kept k (fun x hx hm => ?_), h2.trans k (fun x hx => .inr (h0 x hx)), h3⟩
  rcases hS x hm with h | h
  · exact (h3 x hx).2 h
  · have := h1.lt x hx; omega
def nextS (s : St) (fr ct ep : Nat) (us : List (List UInt8)) (l : List UInt8) : St := if wrongE us ct l.length = 0 then sj s fr ep (tot us) l (bks l.length) else s
def nextU (ct : Nat) (us : List (List UInt8)) (l : List UInt8) : List (List UInt8) := if wrongE us ct l.length = 0 then us ++ [l] else us
/-- Append, the power being on. -/
theorem sy_append (h : Sy w0 w q p s fr ct ep us false X) (a : Option Addr) (n c : Nat) (l : List UInt8) (hr : Reads w (.slice a n c) l) (hl : l.length = n) (hX : ∀ g, (Value.slice a n c).ownBlock = some g → g ∈ X) (hXl : ∀ x ∈ X, x < w.heap.size) (hn : n ≤ 60000) (hd : s.down = false) (hf : s.fuse < 0) (hws : s.ws.length ≤ 30000) :
    Calls Try.prog 14 #[.pointer (some ⟨p, 0, none⟩), .slice a n c] w fun e w' => e = .returned (.int .i64 (wrongE us ct n)) ∧ Sy w0 w' q p (nextS s fr ct ep us l) fr ct ep (nextU ct us l) false X ∧ KX X w w' := by
  have h' := h
  obtain ⟨H, hL, hK, hH⟩ := h
  unfold nextS nextU
  rw [hl]
  by_cases h0 : n = 0
  · subst h0
    have e : wrongE us ct 0 = 1 := by unfold wrongE; rw [if_pos rfl]
    rw [e, if_neg (by decide), if_neg (by decide)]
    exact (append_empty hL a c).mono fun e w' ⟨he, hw⟩ => ⟨he, hw ▸ h', hw ▸ KX.of (Kept.refl [] w)⟩
  · by_cases hfu : ct < tot us + bks n
    · have e : wrongE us ct n = 6 := by unfold wrongE; rw [if_neg h0, if_pos hfu]
      rw [e, if_neg (by decide), if_neg (by decide)]
      exact (append_full hL a n c (by omega) hn hfu).mono fun e w' ⟨he, hk⟩ => ⟨he, h'.kept hk, KX.of hk⟩
    · have e : wrongE us ct n = 0 := by unfold wrongE; rw [if_neg h0, if_neg hfu]
      rw [e, if_pos rfl, if_pos rfl]
      refine (append_any hL a n c l hr hl (fun g hg hm => (hH g hm).2 (hX g hg)) (by omega) hn (by omega) hd hws).mono fun e w' hA => ?_
      rcases hA with ⟨he, _, H', hL', k', n'⟩ | ⟨j, _, hj, _⟩
      · rw [hl] at hL'
        refine ⟨he, ⟨H', hL', hK.trans k' (fun x hx => .inr (hH x hx).1), fun x hx => ?_⟩, ⟨H, k', fun x hx hm => (hH x hm).2 hx⟩⟩
        rcases n' x hx with h | h
        · exact hH x h
        · exact ⟨Nat.le_trans hK.size h, fun hm => by have := hXl x hm; omega⟩
      · omega
/-- Open, of any epoch that is not earlier. -/
theorem sy_open (h : Sy w0 w q p s fr ct ep us over X) (e2 : Nat) (us2 : List (List UInt8)) (hA : Ar s.ws fr ct e2 us2) (hd : s.down = false) (hXl : ∀ x ∈ X, x < w.heap.size) :
    Calls Try.prog 10 #[.pointer (some ⟨q, 0, none⟩), .int .i64 (fr : Int), .int .i64 (ct : Int), .int .u64 (e2 : Int)] w fun e w' => ∃ p2, e = .returned (.tuple #[.pointer (some ⟨p2, 0, none⟩), .int .i64 0]) ∧ Sy w0 w' q p2 s fr ct e2 us2 false X ∧ Kept [] w w' := by
  obtain ⟨H, ⟨F, G, rfl, hD, hL, hFG, hA1, ha, hc⟩, hK, hH⟩ := h
  refine (open_ok hD hd hc ha hA).mono fun e w' ⟨p2, he, G2, hL2, k2, hG2⟩ => ⟨p2, he, ⟨F ++ G2, Lg.opened hD hL2 k2 hG2 hA ha hc, hK.trans k2 (by simp), fun x hx => ?_⟩, k2⟩
  rcases List.mem_append.1 hx with h | h
  · exact hH x (by simp [h])
  · exact ⟨Nat.le_trans hK.size (hG2 x h), fun hm => by have := hXl x hm; have := hG2 x h; omega⟩
theorem Sy.ar (h : Sy w0 w q p s fr ct ep us over X) : Ar s.ws fr ct ep us := by
  obtain ⟨H, ⟨F, G, rfl, hD, hL, hFG, hA1, ha, hc⟩, hK, hH⟩ := h
  exact hA1
theorem sy_units (h : Sy w0 w q p s fr ct ep us over X) :
    Calls Try.prog 19 #[.pointer (some ⟨p, 0, none⟩)] w fun e w' => ∃ g, e = .returned (.slice (some ⟨g, 0, none⟩) us.length us.length) ∧ UR w w' g us us.length ∧ Kept [] w w' := by
  obtain ⟨H, h1, _, _⟩ := h
  exact (units_lg h1).mono fun e w' ⟨g, he, hU, k, _⟩ => ⟨g, he, hU, k⟩
theorem sy_room (h : Sy w0 w q p s fr ct ep us over X) : Calls Try.prog 20 #[.pointer (some ⟨p, 0, none⟩)] w fun e w' => e = .returned (.int .i64 ((ct : Int) - (tot us : Int))) ∧ Kept [] w w' := by
  have hl := h.len
  obtain ⟨H, ⟨F, G, rfl, hD, hL, hFG, hA1, ha, hc⟩, hK, hH⟩ := h
  exact room_any hL hl.2.2.2 hl.2.2.1
/-- Reset, to a later epoch. -/
theorem sy_reset (h : Sy w0 w q p s fr ct ep us false X) (e2 : Nat) (hlt : ep < e2) (he : e2 < 18446744073709551616) :
    Calls Try.prog 16 #[.pointer (some ⟨p, 0, none⟩), .int .u64 (e2 : Int)] w fun e w' => e = .returned (.int .i64 0) ∧ Sy w0 w' q p s fr ct e2 [] false X ∧ KX X w w' := by
  obtain ⟨H, ⟨F, G, rfl, hD, hL, hFG, hA1, ha, hc⟩, hK, hH⟩ := h
  have hp := hL.pG
  refine (reset_ok hL e2 hlt).mono fun e w' ⟨her, hL2, k2⟩ => ⟨her, ⟨F ++ [p], ⟨F, [p], rfl, hD.kept k2 (fun x hx => by simp; intro e; subst e; exact hFG x hx hp), hL2, fun x hx => by simp; intro e; subst e; exact hFG x hx hp, hA1.later e2 hlt he, ha, hc⟩, hK.trans k2 (fun x hx => .inr (by simp at hx; subst hx; exact (hH x (by simp [hp])).1)), fun x hx => hH x (by
    rcases List.mem_append.1 hx with h | h
    · simp [h]
    · simp at h; subst h; simp [hp])⟩, ⟨[p], k2, fun x hx hm => by simp at hm; subst hm; exact (hH x (by simp [hp])).2 hx⟩⟩
theorem sy_writes (h : Sy w0 w q p s fr ct ep us over X) : Calls Try.prog 13 #[.pointer (some ⟨q, 0, none⟩)] w fun e w' => e = .returned (.int .i64 (s.ws.length : Int)) ∧ w = w' := by
  obtain ⟨H, ⟨F, G, rfl, hD, hL, hFG, hA1, ha, hc⟩, hK, hH⟩ := h
  exact writes_any hD
end
/-- A new disk, and its Log. -/
theorem sy_new {w0 w : World} (k : Kept [] w0 w) (nb fr ct ep : Nat) (hnb : nb ≤ 65536) (hc : 1 ≤ ct) (ha : fr + ct ≤ nb) (he : ep < 18446744073709551616) :
    Calls Try.prog 9 #[.int .i64 (nb : Int)] w fun e w1 => ∃ q, e = .returned (.pointer (some ⟨q, 0, none⟩)) ∧ ∀ w2, Kept [] w1 w2 → Calls Try.prog 10 #[.pointer (some ⟨q, 0, none⟩), .int .i64 (fr : Int), .int .i64 (ct : Int), .int .u64 (ep : Int)] w2 fun e w' => ∃ p, e = .returned (.tuple #[.pointer (some ⟨p, 0, none⟩), .int .i64 0]) ∧ Sy w0 w' q p ⟨nb, [], -1, false⟩ fr ct ep [] false [] ∧ Kept [] w2 w' ∧ Kept [] w w1 := by
  refine (new_nb nb hnb w).mono fun e w1 ⟨q, heq, F, hD, k1, nF⟩ => ⟨q, heq, fun w2 k2 => ?_⟩
  refine (open_new (hD.kept k2 (by simp)) hc ha hnb he).mono fun e w' ⟨p, hep, H, hL, k3, nH⟩ => ⟨p, hep, ⟨H, hL, ((k.trans k1 (by simp)).trans k2 (by simp)).trans k3 (by simp), fun x hx => ⟨?_, by simp⟩⟩, k3, k1⟩
  rcases nH x hx with h | h
  · exact Nat.le_trans k.size (nF x h)
  · have := k.size; have := k1.size; have := k2.size; omega
theorem OwnsT.keptX {X : List Nat} {w w' : World} {v : Value} {l : List (List UInt8)} (h : OwnsT w v l) (k : KX X w w') (hX : ∀ g, v.ownBlock = some g → g ∈ X) : OwnsT w' v l := by
  obtain ⟨S, k, hS⟩ := k
  exact h.kept k (fun g hg => hS g (hX g hg))
theorem Reads.keptX {X : List Nat} {w w' : World} {v : Value} {l : List UInt8} (h : Reads w v l) (k : KX X w w') (hX : ∀ g, v.ownBlock = some g → g ∈ X) : Reads w' v l := by
  obtain ⟨S, k, hS⟩ := k
  exact h.kept k (fun g hg => hS g (hX g hg))
theorem KX.size {X : List Nat} {w w' : World} (k : KX X w w') : w.heap.size ≤ w'.heap.size := by
  obtain ⟨S, k, hS⟩ := k
  exact k.size
/-- 'append(v, t)' of one text, as its run. -/
theorem append_text {w : World} {v : Value} {ts : List (List UInt8)} (ho : OwnsT w v ts) (l : List UInt8) (hn : ts.length ≤ 65536) :
    ∃ ad c w', (Builtin.append_ #[28, 28] 28 #[v, .slice (some ⟨w.heap.size, 0, none⟩) 1 1]).run Try.prog (w.alloc (.cells #[.string ⟨l.toArray⟩] 9)) = .ok (.slice ad (ts.length + 1) c) w' ∧ OwnsT w' (.slice ad (ts.length + 1) c) (ts ++ [l]) ∧ Kept v.ownBlock.toList w w' ∧ New w v (.slice ad (ts.length + 1) c) := by
  have k0 := (Kept.refl [] w).alloc (.cells #[.string ⟨l.toArray⟩] 9)
  have hr : ReadsT (w.alloc (.cells #[.string ⟨l.toArray⟩] 9)) (.slice (some ⟨w.heap.size, 0, none⟩) 1 1) [l] := ⟨_, 1, rfl, by simp, by unfold maxLen; omega, by simp, fun _ => ⟨w.heap.size, 0, rfl, fun j u hu => by
    cases j with
    | zero => simp at hu; subst hu; exact cell_of_one (heap_alloc_new w _)
    | succ j => simp at hu⟩⟩
  obtain ⟨ad, n, c, w', hrun, hO, hg, hN⟩ := run_appendT _ 28 v ts (ho.kept k0 (by simp)) _ [l] hr (by simp; omega)
  obtain ⟨a2, c2, hv⟩ := hO.form
  injection hv with e1 e2 e3
  rw [List.length_append, List.length_singleton] at e2
  subst e2
  refine ⟨ad, c, w', hrun, hO, (k0.mono (by simp)).grown hg (fun x hx => .inl (by rw [Option.mem_toList]; exact hx)), fun g hg => ?_⟩
  rcases hN g hg with h | h
  · exact .inl h
  · exact .inr (Nat.le_trans k0.size h)
end Go.Proofs.Ytdcjaopmfccgbaa
