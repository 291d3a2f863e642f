/-
  Texts put one behind the other, and where the writes of each end: a disk that is cut behind any write has all texts that were put by then.
-/
import Derived.Test.YtilelklcfgemoaaAl
import Derived.Test.YtilelklcfgemoaaRf
namespace Go.Proofs.Ytilelklcfgemoaa
open Go.RowKit
set_option linter.unusedVariables false

/-- Cut behind any write, the texts whose writes have ended by then lie there. -/
def Ends (ws : List Wr) (L : List Ent) (es : List Nat) : Prop :=
  es.length = L.length ∧ ∀ n, n ≤ ws.length → ∀ (i : Nat) (x : Ent) (e : Nat), L[i]? = some x → es[i]? = some e → e ≤ n → Lies (blk (ws.take n)) x.1 x.2.1 x.2.2
theorem Ends.nil (ws : List Wr) : Ends ws [] [] := ⟨rfl, fun n _ i x e h => by simp at h⟩
theorem Ends.put {s s2 : St} {fr ct fr2 ct2 : Nat} {L : List Ent} {fl fl2 es : List Nat} (h : Ends s.ws L es) (ho : Okp s fr ct L fl) (vs : List Wr) (hv : ∀ x ∈ vs, x.1 ∈ fl) (x : Ent) (hs : s2.ws = s.ws ++ vs) (ho2 : Okp s2 fr2 ct2 (L ++ [x]) fl2) : Ends s2.ws (L ++ [x]) (es ++ [s2.ws.length]) := by
  refine ⟨by simp [h.1], fun n hn i y e hy he hen => ?_⟩
  by_cases hi : i < L.length
  · rw [List.getElem?_append_left hi] at hy
    rw [List.getElem?_append_left (by rw [h.1]; exact hi)] at he
    rw [hs]
    by_cases hw : n ≤ s.ws.length
    · rw [List.take_append_of_le_length hw]
      exact h.2 n hw i y e hy he hen
    · rw [List.take_append, List.take_of_length_le (by omega)]
      have hyL := List.mem_of_getElem? hy
      exact (ho.lies y hyL).other fun z hz hm => ho.notFree (mem_bls.2 ⟨y, hyL, hm⟩) (hv z (List.mem_of_mem_take hz)) rfl
  · rw [List.getElem?_append_right (by omega)] at hy
    rw [List.getElem?_append_right (by rw [h.1]; omega), h.1] at he
    obtain ⟨d, hd⟩ : ∃ d, i - L.length = d := ⟨_, rfl⟩
    rw [hd] at hy he
    cases d with
    | zero =>
      simp at hy he
      subst hy he
      rw [List.take_of_length_le hen]
      exact ho2.lies x (by simp)
    | succ d => simp at hy
theorem bls_sub {L M : List Ent} (h : M.Sublist L) : (bls M).Sublist (bls L) := by
  induction h with
  | slnil => exact List.Sublist.refl _
  | cons x h ih => rw [bls_cons]; exact ih.trans (List.sublist_append_right _ _)
  | cons_cons x h ih => rw [bls_cons, bls_cons]; exact ih.append_left _
theorem kps_take (L : List Ent) (k : Nat) : (kps L).take k = kps (L.take k) := by simp [kps, List.map_take]
/-- A row of texts and a row of ints are two rows. -/
theorem apartKI {w : World} {v u : Value} {l : List Kp} {m : List Nat} (h : OwnsK w v l) (h2 : OwnsI w u m) {g : Nat} (hg : u.ownBlock = some g) : v.ownBlock ≠ some g := fun e => by
  rcases h.2 with ⟨rfl, _⟩ | ⟨g1, cap, cur, rfl, _, hb, _⟩
  · simp [Value.ownBlock] at e
  · rcases h2.2 with ⟨rfl, _⟩ | ⟨g2, cap2, cur2, rfl, _, hb2, _⟩
    · simp [Value.ownBlock] at hg
    · simp [Value.ownBlock] at e hg
      subst e hg
      rw [hb] at hb2
      injection hb2 with hb2
      injection hb2 with _ hb2
      cases hb2
/-- A cut disk, opened with the names of the first k texts. -/
theorem cut_open {w W : World} {s : St} {fr ct : Nat} {L : List Ent} {fl es F : List Nat} {q2 n k : Nat} (ho : Okp s fr ct L fl) (hE : Ends s.ws L es) (hn : n ≤ s.ws.length) (hk : k ≤ L.length) (hL : L.length ≤ 1000) (hke : ∀ (y e : Nat), y < k → es[y]? = some e → e ≤ n) (hD : IsD W F q2 ⟨s.nb, s.ws.take n, -1, false⟩) (kW : Kept [] w W) (hF : ∀ x ∈ F, w.heap.size ≤ x) (a : Option Addr) (c : Nat) (hr : ReadsI W (.slice a k c) ((L.take k).map (·.1))) :
    Calls Try.prog 11 #[.pointer (some ⟨q2, 0, none⟩), .int .i64 (fr : Int), .int .i64 (ct : Int), .slice a k c] W fun e w' => ∃ p2 fl2, e = .returned (.tuple #[.pointer (some ⟨p2, 0, none⟩), .int .i64 0]) ∧ Sy w w' q2 p2 ⟨s.nb, s.ws.take n, -1, false⟩ fr ct (L.take k) fl2 [] ∧ Kept [] W w' := by
  have hlen : k = (L.take k).length := by rw [List.length_take]; omega
  have hsub := bls_sub (List.take_sublist k L)
  refine open_texts (w0 := w) (X := []) (L := L.take k) hD rfl ho.one ho.area (fun x hx => ?_) ((List.nodup_append.1 ho.nodup).1.sublist hsub) (fun b hb => ho.mem (List.mem_append.2 (.inl (hsub.subset hb)))) (by omega) a k c hlen hr kW (fun x hx => ⟨hF x hx, by simp⟩) (by simp)
  obtain ⟨i, hi⟩ := List.mem_iff_getElem?.1 hx
  have hik : i < k := by have := (List.getElem?_eq_some_iff.1 hi).1; omega
  rw [List.getElem?_take_of_lt hik] at hi
  obtain ⟨e, he⟩ : ∃ e, es[i]? = some e := ⟨es[i]'(by rw [hE.1]; omega), by simp⟩
  exact hE.2 n hn i x e hi he (hke i e hik he)
/-- A copy of the disk, cut behind n writes. -/
theorem sy_cut {w0 w : World} {q p : Nat} {s : St} {fr ct : Nat} {L : List Ent} {fl X : List Nat} (h : Sy w0 w q p s fr ct L fl X) (n : Nat) (hn : n ≤ s.ws.length) (hb : s.ws.length ≤ 100000) :
    Calls Try.prog 23 #[.pointer (some ⟨q, 0, none⟩), .int .i64 (n : Int)] w fun e w' => ∃ q2, e = .returned (.pointer (some ⟨q2, 0, none⟩)) ∧ ∃ F, IsD w' F q2 ⟨s.nb, s.ws.take n, -1, false⟩ ∧ Kept [] w w' ∧ ∀ x ∈ F, w.heap.size ≤ x := by
  obtain ⟨F, G, T, hD, hP, hT, hFG, hO, hK, hH⟩ := h
  have e1 : cutS s (n : Int) = ⟨s.nb, s.ws.take n, -1, false⟩ := by
    unfold cutS cutN
    rw [show (min (max (n : Int) 0) (s.ws.length : Int)).toNat = n by omega]
  have h := cut_any hD (n : Int) hb
  rw [e1] at h
  exact h
end Go.Proofs.Ytilelklcfgemoaa
