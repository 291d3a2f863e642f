/-
  The document's disk in memory, and its short calls.
-/
import Derived.Test.YtmbfojjmnjagiaaRead
namespace Go.Proofs.Ytmbfojjmnjagiaa
open Go.RowKit
set_option linter.unusedVariables false

/-- The cells of the document's writes. -/
def rcells (x : Wr) : List Value := [.int .i64 (x.1 : Int), .string ⟨x.2.toArray⟩]
def refC (ws : List Wr) : List Value := ws.flatMap rcells
theorem refC_snoc (ws : List Wr) (x : Wr) : refC (ws ++ [x]) = refC ws ++ rcells x := by simp [refC]
theorem refC_length : ∀ (ws : List Wr), (refC ws).length = ws.length * 2
  | [] => rfl
  | x :: t => by
    have e : refC (x :: t) = rcells x ++ refC t := by simp [refC]
    rw [e, List.length_append, refC_length t, List.length_cons]
    simp [rcells]
    omega
theorem refC_at : ∀ (ws : List Wr) (k : Nat) (x : Wr), ws[k]? = some x → (refC ws)[k * 2]? = some (.int .i64 (x.1 : Int)) ∧ (refC ws)[k * 2 + 1]? = some (.string ⟨x.2.toArray⟩)
  | [], k, x, hx => by simp at hx
  | y :: t, 0, x, hx => by
    simp at hx
    subst hx
    simp [refC, rcells]
  | y :: t, k + 1, x, hx => by
    have e : refC (y :: t) = .int .i64 (y.1 : Int) :: .string ⟨y.2.toArray⟩ :: refC t := by simp [refC, rcells]
    rw [e, show (k + 1) * 2 = (k * 2 + 1) + 1 by omega, show k * 2 + 1 + 1 + 1 = (k * 2 + 1 + 1) + 1 by omega]
    simp only [List.getElem?_cons_succ]
    exact refC_at t k x (by simpa using hx)

/-- The document's disk s lies at block q; the blocks that are its own are G. -/
def IsF (w : World) (G : List Nat) (q : Nat) (s : St) : Prop :=
  ∃ vd, G = q :: vd.ownBlock.toList ∧ w.heap[q]? = some (.cells #[.int .i64 (s.nb : Int), vd, .int .i64 s.fuse, .bool s.down] 52 (0, 0)) ∧
    w.ownsRow 0 59 2 vd s.ws.length (refC s.ws) ∧ vd.ownBlock ≠ some q ∧ s.ok

theorem IsF.kept {S : List Nat} {w w' : World} {F : List Nat} {p : Nat} {s : St} (h : IsF w F p s) (k : Kept S w w') (hn : ∀ x ∈ F, x ∉ S) : IsF w' F p s := by
  obtain ⟨vd, rfl, h1, h2, h3, h4⟩ := h
  exact ⟨vd, rfl, k.keeps h1 (hn p (by simp)), ownsRow_keep h2 k (fun x hx => hn x (by simp [hx])), h3, h4⟩
theorem IsF.lt {w : World} {F : List Nat} {p : Nat} {s : St} (h : IsF w F p s) : ∀ x ∈ F, x < w.heap.size := by
  obtain ⟨vd, rfl, h1, h2, h3, h4⟩ := h
  intro x hx
  simp only [List.mem_cons, Option.mem_toList] at hx
  rcases hx with rfl | hx
  · exact lt_of_block h1
  · exact (World.ownsRow.lt h2 x hx).2
theorem IsF.ok {w : World} {F : List Nat} {p : Nat} {s : St} (h : IsF w F p s) : s.ok := by obtain ⟨_, _, _, _, _, h⟩ := h; exact h

theorem fdown_any {F : List Nat} {p : Nat} {s : St} {w : World} (hD : IsF w F p s) : Calls Try.prog 31 #[.pointer (some ⟨p, 0, none⟩)] w fun e w' => e = .returned (.bool s.down) ∧ w = w' := by
  obtain ⟨vd, hF, hbox, _⟩ := hD
  obtain ⟨c0, c1, c2, c3⟩ := cells4 hbox
  generalize s.down = b at c3
  clear hbox c0 c1 c2
  go_enter Try.func31, Try.ntmps31
  go_wp2
  go_ret
  exact ⟨rfl, rfl⟩
theorem fblocks_any {F : List Nat} {p : Nat} {s : St} {w : World} (hD : IsF w F p s) : Calls Try.prog 29 #[.pointer (some ⟨p, 0, none⟩)] w fun e w' => e = .returned (.int .i64 (s.nb : Int)) ∧ w = w' := by
  obtain ⟨vd, hF, hbox, _⟩ := hD
  obtain ⟨c0, c1, c2, c3⟩ := cells4 hbox
  generalize s.nb = b at c0
  clear hbox c1 c3 c2
  go_enter Try.func29, Try.ntmps29
  go_wp2
  go_ret
  exact ⟨rfl, rfl⟩
theorem fwrites_any {F : List Nat} {p : Nat} {s : St} {w : World} (hD : IsF w F p s) : Calls Try.prog 30 #[.pointer (some ⟨p, 0, none⟩)] w fun e w' => e = .returned (.int .i64 (s.ws.length : Int)) ∧ w = w' := by
  obtain ⟨vd, hF, hbox, hown, _⟩ := hD
  obtain ⟨a, cap, rfl⟩ := own_form hown
  obtain ⟨c0, c1, c2, c3⟩ := cells4 hbox
  clear hown
  generalize s.ws.length = b at c1
  clear hbox c0 c3 c2
  go_enter Try.func30, Try.ntmps30
  go_wp2
  go_ret
  exact ⟨rfl, rfl⟩

theorem IsF.fuse {F : List Nat} {p : Nat} {s : St} {w : World} (hD : IsF w F p s) (f : Int) (h1 : -1 ≤ f) (h2 : f < 9223372036854775808) : IsF (w.setCell ⟨p, 2, none⟩ (.int .i64 f)) F p { s with fuse := f } ∧ Kept F w (w.setCell ⟨p, 2, none⟩ (.int .i64 f)) := by
  obtain ⟨vd, hF, hbox, hown, hap, hok⟩ := hD
  refine ⟨⟨vd, hF, ?_, ownsRow_setCell_other hown hap _, hap, ⟨hok.nb, hok.ws, h1, h2⟩⟩, (Kept.refl F w).setCell (.inl (by rw [hF]; simp)) _⟩
  rw [heap_setCell_same w p 2 _ 52 _ hbox]; rfl
theorem IsF.setDown {F : List Nat} {p : Nat} {s : St} {w : World} (hD : IsF w F p s) (b : Bool) : IsF (w.setCell ⟨p, 3, none⟩ (.bool b)) F p { s with down := b } ∧ Kept F w (w.setCell ⟨p, 3, none⟩ (.bool b)) := by
  obtain ⟨vd, hF, hbox, hown, hap, hok⟩ := hD
  refine ⟨⟨vd, hF, ?_, ownsRow_setCell_other hown hap _, hap, ⟨hok.nb, hok.ws, hok.fuse, hok.top⟩⟩, (Kept.refl F w).setCell (.inl (by rw [hF]; simp)) _⟩
  rw [heap_setCell_same w p 3 _ 52 _ hbox]; rfl
theorem IsF.cells {F : List Nat} {p : Nat} {s : St} {w : World} (hD : IsF w F p s) : (w.cell? ⟨p, 2, none⟩ = some (.int .i64 s.fuse) ∧ w.frozen? ⟨p, 2, none⟩ = false) ∧ (w.cell? ⟨p, 3, none⟩ = some (.bool s.down) ∧ w.frozen? ⟨p, 3, none⟩ = false) := by
  obtain ⟨vd, hF, hbox, _⟩ := hD
  obtain ⟨c0, c1, c2, c3⟩ := cells4 hbox
  exact ⟨⟨c2, free4 hbox 2⟩, ⟨c3, free4 hbox 3⟩⟩

theorem fsetfuse_any {F : List Nat} {p : Nat} {s : St} {w : World} (hD : IsF w F p s) (n : Int) (h1 : -9223372036854775808 ≤ n) (h2 : n < 9223372036854775808) :
    Calls Try.prog 26 #[.pointer (some ⟨p, 0, none⟩), .int .i64 n] w fun e w' => e = .returned (.tuple #[]) ∧ IsF w' F p (fuseS s n) ∧ Kept F w w' := by
  have hfin := hD.fuse (max n (-1)) (by omega) (by omega)
  obtain ⟨⟨c2, f2⟩, _⟩ := hD.cells
  generalize s.fuse = y at c2
  clear hD
  by_cases hm : n < -1
  · have hm2 : ¬ -1 ≤ n := by omega
    rw [show max n (-1) = -1 by omega] at hfin
    have e : fuseS s n = { s with fuse := -1 } := by unfold fuseS; rw [show max n (-1) = -1 by omega]
    rw [e]
    clear e
    go_enter Try.func26, Try.ntmps26
    go_wp2
    first | go_end0 | refine bodyPost_ret (results_none rfl _ _ _) rfl ?_
    exact ⟨rfl, hfin⟩
  · rw [show max n (-1) = n by omega] at hfin
    have e : fuseS s n = { s with fuse := n } := by unfold fuseS; rw [show max n (-1) = n by omega]
    rw [e]
    clear e
    have hm2 : -1 ≤ n := by omega
    go_enter Try.func26, Try.ntmps26
    go_wp2
    first | go_end0 | refine bodyPost_ret (results_none rfl _ _ _) rfl ?_
    exact ⟨rfl, hfin⟩

theorem frestart_any {F : List Nat} {p : Nat} {s : St} {w : World} (hD : IsF w F p s) :
    Calls Try.prog 27 #[.pointer (some ⟨p, 0, none⟩)] w fun e w' => e = .returned (.tuple #[]) ∧ IsF w' F p (restS s) ∧ Kept F w w' := by
  obtain ⟨hD1, hk1⟩ := hD.setDown false
  obtain ⟨hD2, hk2⟩ := hD1.fuse (-1) (by omega) (by omega)
  obtain ⟨⟨c2, f2⟩, _⟩ := hD1.cells
  obtain ⟨_, c3, f3⟩ := hD.cells
  have hk := hk1.trans hk2 (fun x hx => .inl hx)
  generalize { s with down := false }.fuse = y at c2
  generalize s.down = z at c3
  clear hD hD1 hk1 hk2
  go_enter Try.func27, Try.ntmps27
  go_wp2
  first | go_end0 | refine bodyPost_ret (results_none rfl _ _ _) rfl ?_
  exact ⟨rfl, hD2, hk⟩

/-- Where the document's writes lie. -/
theorem IsF.row {F : List Nat} {p : Nat} {s : St} {w : World} (hD : IsF w F p s) (hpos : 0 < s.ws.length) :
    ∃ gd cap, w.cell? ⟨p, 1, none⟩ = some (.slice (some ⟨gd, 0, none⟩) s.ws.length cap) ∧ (∀ k x, s.ws[k]? = some x → w.cell? ⟨gd, k * 2, none⟩ = some (.int .i64 (x.1 : Int)) ∧ w.cell? ⟨gd, k * 2 + 1, none⟩ = some (.string ⟨x.2.toArray⟩)) ∧ s.ws.length ≤ cap ∧ cap ≤ maxLen ∧ gd ∈ F := by
  obtain ⟨vd, hF, hbox, hown, hap, hok⟩ := hD
  obtain ⟨gd, cap, cur, rfl, _, hg, h1, h2, h3, h4⟩ : ∃ g cap cur, vd = .slice (some ⟨g, 0, none⟩) s.ws.length cap ∧ 0 ≤ g ∧ w.heap[g]? = some (.cells cur 59 (0, 0)) ∧ s.ws.length ≤ cap ∧ cap ≤ maxLen ∧ cur.size = cap * 2 ∧ cur.toList.take (s.ws.length * 2) = refC s.ws := by
    rcases hown.2 with ⟨_, h0⟩ | h
    · omega
    · exact h
  have hcell : ∀ j u, (refC s.ws)[j]? = some u → w.cell? ⟨gd, j, none⟩ = some u := by
    intro j u hu
    rw [cell_of_row w gd _ cur 59 (0, 0) hg]
    rw [← h4, List.getElem?_take] at hu
    split at hu
    · simpa using hu
    · cases hu
  refine ⟨gd, cap, (cells4 hbox).2.1, fun k x hx => ?_, h1, h2, by rw [hF]; simp [Value.ownBlock]⟩
  obtain ⟨a1, a2⟩ := refC_at s.ws k x hx
  exact ⟨hcell _ _ a1, hcell _ _ a2⟩

theorem fwritten_no {F : List Nat} {p : Nat} {s : St} {w : World} (hD : IsF w F p s) (n : Int) (h : n < 0 ∨ (s.ws.length : Int) ≤ n) : Calls Try.prog 28 #[.pointer (some ⟨p, 0, none⟩), .int .i64 n] w fun e w' => e = .returned (.int .i64 (-1)) ∧ w = w' := by
  obtain ⟨vd, hF, hbox, hown, _⟩ := hD
  obtain ⟨a, cap, rfl⟩ := own_form hown
  obtain ⟨c0, c1, c2, c3⟩ := cells4 hbox
  clear hown hbox c0 c2 c3
  generalize s.ws.length = b at c1 h
  by_cases h0 : n < 0
  · go_enter Try.func28, Try.ntmps28
    go_wp2
    go_ret
    exact ⟨rfl, rfl⟩
  · have h1 : (b : Int) ≤ n := by omega
    go_enter Try.func28, Try.ntmps28
    go_wp2
    go_ret
    exact ⟨rfl, rfl⟩
set_option maxRecDepth 100000 in
theorem fwritten_yes {F : List Nat} {p : Nat} {s : St} {w : World} (hD : IsF w F p s) (n : Nat) (x : Wr) (hx : s.ws[n]? = some x) : Calls Try.prog 28 #[.pointer (some ⟨p, 0, none⟩), .int .i64 (n : Int)] w fun e w' => e = .returned (.int .i64 (x.1 : Int)) ∧ w = w' := by
  have hlt : n < s.ws.length := (List.getElem?_eq_some_iff.1 hx).1
  obtain ⟨gd, cap, c0, cc, hcap, hm, _⟩ := hD.row (by omega)
  obtain ⟨c1, c2⟩ := cc n x hx
  generalize s.ws.length = b at c0 hlt hcap
  generalize x.1 = y at c1
  have hm' : cap ≤ 9223372036854775807 := hm
  clear hD hx hm cc c2
  have h0 : ¬ (n : Int) < 0 := by omega
  have h1 : ¬ (b : Int) ≤ (n : Int) := by omega
  have h2 : (n : Int) < (b : Int) := by omega
  go_enter Try.func28, Try.ntmps28
  go_wp2
  go_ret
  exact ⟨rfl, rfl⟩
theorem fwritten_any {F : List Nat} {p : Nat} {s : St} {w : World} (hD : IsF w F p s) (n : Int) : Calls Try.prog 28 #[.pointer (some ⟨p, 0, none⟩), .int .i64 n] w fun e w' => e = .returned (.int .i64 (wnA s n)) ∧ w = w' := by
  unfold wnA
  by_cases h : n < 0 ∨ (s.ws.length : Int) ≤ n
  · rw [if_pos h]
    exact fwritten_no hD n h
  · rw [if_neg h]
    obtain ⟨k, rfl⟩ := Int.eq_ofNat_of_zero_le (show 0 ≤ n by omega)
    have hk : k < s.ws.length := by omega
    have := fwritten_yes hD k s.ws[k] (by simp)
    rw [Int.toNat_natCast, List.getD_eq_getElem?_getD, List.getElem?_eq_getElem hk]
    exact this

theorem isF_new (w : World) (n : Nat) (hn : n ≤ 65536) :
    IsF (w.alloc (.cells #[.int .i64 (n : Int), .slice none 0 0, .int .i64 (-1), .bool false] 52)) [w.heap.size] w.heap.size ⟨n, [], -1, false⟩ :=
  ⟨.slice none 0 0, rfl, heap_alloc_new w _, World.ownsRow_nil _ 0 59 2, by simp [Value.ownBlock], ⟨hn, okW.nil _, by show (-1 : Int) ≤ -1; omega, by show (-1 : Int) < _; omega⟩⟩

set_option maxHeartbeats 400000 in
theorem fnew_any (b : Int) (w : World) : Calls Try.prog 10 #[.int .i64 b] w fun e w' => ∃ p, e = .returned (.pointer (some ⟨p, 0, none⟩)) ∧ ∃ F, IsF w' F p (newS b) ∧ Kept [] w w' ∧ ∀ x ∈ F, w.heap.size ≤ x := by
  have hle := newN_le b
  have hfin := isF_new w (newN b) hle
  have hN : Hid (newN b = (min (max b 0) 65536).toNat) := rfl
  have hS : Hid (newS b = ⟨newN b, [], -1, false⟩) := rfl
  generalize newS b = s at hS
  generalize newN b = n at hfin hN hS hle
  have fin : ∀ w', w' = (w.alloc (.cells #[.int .i64 (n : Int), .slice none 0 0, .int .i64 (-1), .bool false] 52)) → ∃ p, Ending.returned (.pointer (some ⟨w.heap.size, 0, none⟩)) = .returned (.pointer (some ⟨p, 0, none⟩)) ∧ ∃ F, IsF w' F p s ∧ Kept [] w w' ∧ ∀ x ∈ F, w.heap.size ≤ x := by
    rintro _ rfl
    refine ⟨_, rfl, _, hS.out ▸ hfin, (Kept.refl [] w).alloc _, ?_⟩
    intro x hx
    simp at hx
    omega
  clear hfin hS
  by_cases h0 : b < 0
  · have hn : n = 0 := by rw [hN.out]; omega
    subst hn
    clear hN hle
    have h1 : ¬ 0 ≤ b := by omega
    go_enter Try.func10, Try.ntmps10
    go_wp2
    go_ret
    exact fin _ rfl
  · by_cases h2 : b ≤ 65536
    · have hn : b = (n : Int) := by rw [hN.out]; omega
      subst hn
      clear hN
      have h3 : (0 : Int) ≤ (n : Int) := by omega
      have h4 : ¬ (65536 : Int) < (n : Int) := by omega
      go_enter Try.func10, Try.ntmps10
      go_wp2
      go_ret
      exact fin _ rfl
    · have hn : n = 65536 := by rw [hN.out]; omega
      subst hn
      clear hN hle
      have h3 : (0 : Int) ≤ b := by omega
      have h4 : (65536 : Int) < b := by omega
      go_enter Try.func10, Try.ntmps10
      go_wp2
      go_ret
      exact fin _ rfl

end Go.Proofs.Ytmbfojjmnjagiaa
