/-
  A disk and a Super of it, with all that was saved: Open, Save, Generation, Payload, Writes and Written in the words of the saves.
-/
import Derived.Test.YthjdlbejfaejkaaSaveL
namespace Go.Proofs.Ythjdlbejfaejkaa
open Go.RowKit
set_option linter.unusedVariables false

/-- The disk at q (nb blocks, up, no fuse) has had just these saves; the memory it takes is new since w0. -/
def Dsk (w0 w : World) (q nb : Nat) (saves : List (List UInt8)) : Prop :=
  ∃ F s, IsD w F q s ∧ Hist s.ws saves ∧ s.down = false ∧ s.fuse = -1 ∧ s.nb = nb ∧ Kept [] w0 w ∧ (∀ x ∈ F, w0.heap.size ≤ x)
/-- And the Super at p is of it. -/
def Has (w0 w : World) (q p nb : Nat) (saves : List (List UInt8)) : Prop :=
  ∃ F s v, Sys w F q s p v (saves.length, lastS saves) false ∧ Hist s.ws saves ∧ s.down = false ∧ s.fuse = -1 ∧ s.nb = nb ∧ Kept [] w0 w ∧ (∀ x ∈ F, w0.heap.size ≤ x) ∧ w0.heap.size ≤ p
theorem Has.dsk {w0 w : World} {q p nb : Nat} {saves : List (List UInt8)} (h : Has w0 w q p nb saves) : Dsk w0 w q nb saves := by
  obtain ⟨F, s, v, h1, h2, h3, h4, h5, h6, h7, _⟩ := h
  exact ⟨F, s, h1.dsk, h2, h3, h4, h5, h6, h7⟩
theorem Has.keep {w0 w w' : World} {q p nb : Nat} {saves : List (List UInt8)} (h : Has w0 w q p nb saves) (k : Kept [] w w') : Has w0 w' q p nb saves := by
  obtain ⟨F, s, v, h1, h2, h3, h4, h5, h6, h7, h8⟩ := h
  exact ⟨F, s, v, h1.kept k, h2, h3, h4, h5, h6.trans k (by simp), h7, h8⟩
theorem Has.k {w0 w : World} {q p nb : Nat} {saves : List (List UInt8)} (h : Has w0 w q p nb saves) : Kept [] w0 w := by
  obtain ⟨F, s, v, h1, h2, h3, h4, h5, h6, h7, h8⟩ := h
  exact h6
theorem Dsk.keep {w0 w w' : World} {q nb : Nat} {saves : List (List UInt8)} (h : Dsk w0 w q nb saves) (k : Kept [] w w') : Dsk w0 w' q nb saves := by
  obtain ⟨F, s, h1, h2, h3, h4, h5, h6, h7⟩ := h
  exact ⟨F, s, h1.kept k (by simp), h2, h3, h4, h5, h6.trans k (by simp), h7⟩
theorem Dsk.k {w0 w : World} {q nb : Nat} {saves : List (List UInt8)} (h : Dsk w0 w q nb saves) : Kept [] w0 w := by
  obtain ⟨F, s, h1, h2, h3, h4, h5, h6, h7⟩ := h
  exact h6

theorem newN_nat (n : Nat) (h : n ≤ 65536) : newN (n : Int) = n := by unfold newN; omega
/-- disk.New. -/
theorem new_dsk {w0 w : World} (n : Nat) (h : n ≤ 65536) (k : Kept [] w0 w) : Calls Try.prog 8 #[.int .i64 (n : Int)] w fun e w' => ∃ q, e = .returned (.pointer (some ⟨q, 0, none⟩)) ∧ Dsk w0 w' q n [] :=
  (new_any (n : Int) w).mono fun e w' ⟨p, he, F, hD, k1, hF⟩ => ⟨p, he, F, newS (n : Int), hD, Hist.nil, rfl, rfl, newN_nat n h, k.trans k1 (by simp), fun x hx => Nat.le_trans k.size (hF x hx)⟩

/-- super.Open. -/
theorem open_dsk {w0 w : World} {q nb : Nat} {saves : List (List UInt8)} (h : Dsk w0 w q nb saves) (hn : 2 ≤ nb) (hs : saves.length ≤ 1000) :
    Calls Try.prog 9 #[.pointer (some ⟨q, 0, none⟩)] w fun e w' => ∃ p, e = .returned (.tuple #[.pointer (some ⟨p, 0, none⟩), .int .i64 0]) ∧ Has w0 w' q p nb saves ∧ Kept [] w w' := by
  obtain ⟨F, s, h1, h2, h3, h4, h5, h6, h7⟩ := h
  refine (opn_ok h1 (by omega) h3).mono fun e w' ⟨p, v, r, he, hS, k, hp, hf, ho⟩ => ⟨p, he, ?_, k⟩
  have hr := opens_hist h2 hs ho
  subst hr
  refine ⟨F, s, v, ⟨h1.kept k (by simp), hS, fun hm => ?_, fun g hg hm => ?_⟩, h2, h3, h4, h5, h6.trans k (by simp), h7, Nat.le_trans h6.size hp⟩
  · have := h1.lt p hm; omega
  · have := h1.lt g hm; have := hf g hg; omega
theorem open_few {w0 w : World} {q nb : Nat} {saves : List (List UInt8)} (h : Dsk w0 w q nb saves) (hn : nb < 2) :
    Calls Try.prog 9 #[.pointer (some ⟨q, 0, none⟩)] w fun e w' => e = .returned (.tuple #[.pointer none, .int .i64 1]) ∧ w = w' := by
  obtain ⟨F, s, h1, h2, h3, h4, h5, h6, h7⟩ := h
  exact opn_few h1 (by omega)

theorem wrE_ok {s : St} {i : Nat} (h1 : s.down = false) (h2 : s.fuse = -1) (h3 : i < s.nb) : wrE s (i : Int) 256 = 0 := by
  unfold wrE
  rw [h1, if_neg (by simp), if_neg (by omega), h2]
  rfl
theorem wrS_ok' {s : St} {i : Nat} {l : List UInt8} (h1 : s.down = false) (h2 : s.fuse = -1) (h3 : i < s.nb) (h4 : l.length = 256) : wrS s (i : Int) l = { s with ws := s.ws ++ [(i, l)] } := by
  unfold wrS
  rw [h1, if_neg (by simp), if_neg (by omega), h2, if_neg (by decide), if_neg (by decide)]
  simp

/-- Save, of what is not too long. -/
theorem save_has {w0 w : World} {q p nb : Nat} {saves : List (List UInt8)} (h : Has w0 w q p nb saves) (hn : 2 ≤ nb) (hs : saves.length ≤ 500) (v : Value) (l : List UInt8) (hr : Reads w v l) (hl : l.length ≤ 200) :
    Calls Try.prog 12 #[.pointer (some ⟨p, 0, none⟩), v] w fun e w' => e = .returned (.int .i64 0) ∧ Has w0 w' q p nb (saves ++ [l]) := by
  obtain ⟨F, s, vp, h1, h2, h3, h4, h5, h6, h7, h8⟩ := h
  have hp := plc_succ saves.length (by omega)
  have hlt : plc (saves.length + 1) < s.nb := by have := plc_lt (saves.length + 1); omega
  have hr' := hr
  obtain ⟨a, cap, rfl, _⟩ := hr
  have hws : s.ws.length = saves.length := h2.1
  refine (save_ok h1 a l.length cap l hr' rfl hl (show saves.length ≤ 1000 by omega) (by omega) (wrE_ok h3 h4 hlt)).mono fun e w' ⟨he, F', v', hY, hk, hN, hf⟩ => ⟨he, ?_⟩
  have hY' : Sys w' F' q (wrS s (plc (saves.length + 1) : Int) (blkOf (saves.length + 1) l)) p v' (saves.length + 1, l) false := hY
  rw [wrS_ok' h3 h4 hlt (blkOf_length _ l hl)] at hY'
  refine ⟨F', { s with ws := s.ws ++ [(plc (saves.length + 1), blkOf (saves.length + 1) l)] }, v', ?_, ?_, h3, h4, h5, h6.trans hk (fun x hx => ?_), fun x hx => ?_, h8⟩
  · rw [show ((saves ++ [l]).length, lastS (saves ++ [l])) = (saves.length + 1, l) by rw [lastS_snoc]; simp]
    exact hY'
  · show Hist (s.ws ++ [(plc (saves.length + 1), blkOf (saves.length + 1) l)]) _
    have := h2.snoc l hl
    rw [hp]
    exact this
  · rcases List.mem_cons.1 hx with rfl | hx
    · exact .inr h8
    · exact .inr (h7 x hx)
  · rcases hN x hx with h | h
    · exact h7 x h
    · exact Nat.le_trans h6.size h
/-- Save, of what is too long. -/
theorem long_has {w : World} {p : Nat} (v : Value) (l : List UInt8) (hr : Reads w v l) (hl : 200 < l.length) :
    Calls Try.prog 12 #[.pointer (some ⟨p, 0, none⟩), v] w fun e w' => e = .returned (.int .i64 4) ∧ w = w' := by
  obtain ⟨a, cap, rfl, _⟩ := hr
  exact save_long a l.length cap hl
theorem gen_has {w0 w : World} {q p nb : Nat} {saves : List (List UInt8)} (h : Has w0 w q p nb saves) : Calls Try.prog 10 #[.pointer (some ⟨p, 0, none⟩)] w fun e w' => e = .returned (.int .u64 (saves.length : Int)) ∧ w = w' := by
  obtain ⟨F, s, v, h1, _⟩ := h
  exact gen_any h1.sup
/-- Payload, and its text. -/
theorem pay_has {w0 w : World} {q p nb : Nat} {saves : List (List UInt8)} (h : Has w0 w q p nb saves) : Calls Try.prog 11 #[.pointer (some ⟨p, 0, none⟩)] w fun e w' => ∃ v', e = .returned v' ∧ Owns 5 w' v' (lastS saves) ∧ Kept [] w w' ∧ Fresh w v' := by
  obtain ⟨F, s, v, h1, _⟩ := h
  exact pay_any h1.sup
theorem text_has {w0 w : World} {q p nb : Nat} {saves : List (List UInt8)} (h : Has w0 w q p nb saves) : Calls Try.prog 11 #[.pointer (some ⟨p, 0, none⟩)] w fun e w' => ∃ a c, e = .returned (.slice a (lastS saves).length c) ∧ (convert 32 9 (.slice a (lastS saves).length c)).run Try.prog w' = .ok (.string ⟨(lastS saves).toArray⟩) w' ∧ Kept [] w w' :=
  (pay_has h).mono fun e w' ⟨v', he, hO, k, f⟩ => by
    obtain ⟨a, c, hv⟩ := hO.form
    subst hv
    exact ⟨a, c, he, str34 _ _ w' hO.reads, k⟩
theorem writes_dsk {w0 w : World} {q nb : Nat} {saves : List (List UInt8)} (h : Dsk w0 w q nb saves) : Calls Try.prog 14 #[.pointer (some ⟨q, 0, none⟩)] w fun e w' => e = .returned (.int .i64 (saves.length : Int)) ∧ w = w' := by
  obtain ⟨F, s, h1, h2, _⟩ := h
  have := writes_any h1
  rw [h2.1] at this
  exact this
theorem written_dsk {w0 w : World} {q nb : Nat} {saves : List (List UInt8)} (h : Dsk w0 w q nb saves) (k : Nat) (hk : k < saves.length) : Calls Try.prog 13 #[.pointer (some ⟨q, 0, none⟩), .int .i64 (k : Int)] w fun e w' => e = .returned (.int .i64 ((k % 2 : Nat) : Int)) ∧ w = w' := by
  obtain ⟨F, s, h1, h2, _⟩ := h
  obtain ⟨l, hl⟩ : ∃ l, saves[k]? = some l := ⟨saves[k], by simp⟩
  exact written_yes h1 k _ (h2.2 k l hl).1
/-- disk.Cut. -/
theorem cut_dsk {w0 w : World} {q nb : Nat} {saves : List (List UInt8)} (h : Dsk w0 w q nb saves) (n : Nat) (hn : n ≤ saves.length) (hs : saves.length ≤ 1000) : Calls Try.prog 15 #[.pointer (some ⟨q, 0, none⟩), .int .i64 (n : Int)] w fun e w' => ∃ q', e = .returned (.pointer (some ⟨q', 0, none⟩)) ∧ Dsk w0 w' q' nb (saves.take n) ∧ Kept [] w w' := by
  obtain ⟨F, s, h1, h2, h3, h4, h5, h6, h7⟩ := h
  refine (cut_any h1 (n : Int) (by rw [h2.1]; exact hs)).mono fun e w' ⟨q', he, G, hD, k, hG⟩ => ⟨q', he, ⟨G, _, hD, ?_, rfl, rfl, h5, h6.trans k (by simp), fun x hx => Nat.le_trans h6.size (hG x hx)⟩, k⟩
  have hc : cutN s (n : Int) = n := by unfold cutN; have := h2.1; omega
  show Hist (s.ws.take (cutN s (n : Int))) _
  rw [hc]
  exact h2.take n

end Go.Proofs.Ythjdlbejfaejkaa
