/-
  The writes of a text in whatever order its parts come, and turnFor.
-/
import Derived.Test.YtilelklcfgemoaaRnd
namespace Go.Proofs.Ytilelklcfgemoaa
open Go.RowKit
set_option linter.unusedVariables false

/-- The writes when the parts come in this order; nx is the block that the next one names. -/
def gw (t : Bool) (nm : Nat) (bs : List Nat) (l : List UInt8) : Nat → List Nat → List Wr
  | _, [] => []
  | nx, j :: r => (bs.getD j 0, blkP t (l.length - 238 * j) nx nm (bs.getD j 0) (chk l j)) :: gw t nm bs l (bs.getD j 0) r
def lastAt (bs : List Nat) : Nat → List Nat → Nat
  | nx, [] => nx
  | _, j :: r => lastAt bs (bs.getD j 0) r
theorem lastAt_snoc (bs : List Nat) (j : Nat) : ∀ (pre : List Nat) (nx : Nat), lastAt bs nx (pre ++ [j]) = bs.getD j 0
  | [], nx => rfl
  | i :: r, nx => by simp only [List.cons_append, lastAt]; exact lastAt_snoc bs j r _
theorem lastAt_lt {bs : List Nat} (h : ∀ x ∈ bs, x < 65536) : ∀ (pre : List Nat) (nx : Nat), nx < 65536 → lastAt bs nx pre < 65536
  | [], nx, hn => hn
  | i :: r, nx, hn => lastAt_lt h r _ (getD_lt h i)
theorem gw_snoc (t : Bool) (nm : Nat) (bs : List Nat) (l : List UInt8) (j : Nat) : ∀ (pre : List Nat) (nx : Nat), gw t nm bs l nx (pre ++ [j]) = gw t nm bs l nx pre ++ [(bs.getD j 0, blkP t (l.length - 238 * j) (lastAt bs nx pre) nm (bs.getD j 0) (chk l j))]
  | [], nx => rfl
  | i :: r, nx => by simp only [List.cons_append, gw, lastAt]; rw [gw_snoc t nm bs l j r]
theorem gw_length (t : Bool) (nm : Nat) (bs : List Nat) (l : List UInt8) : ∀ (pre : List Nat) (nx : Nat), (gw t nm bs l nx pre).length = pre.length
  | [], nx => rfl
  | i :: r, nx => by simp only [gw, List.length_cons]; rw [gw_length t nm bs l r]
theorem gw_append (t : Bool) (nm : Nat) (bs : List Nat) (l : List UInt8) (b : List Nat) : ∀ (a : List Nat) (nx : Nat), ∃ r, gw t nm bs l nx (a ++ b) = gw t nm bs l nx a ++ r
  | [], nx => ⟨_, rfl⟩
  | i :: a, nx => by
    obtain ⟨r, hr⟩ := gw_append t nm bs l b a (bs.getD i 0)
    exact ⟨r, by simp only [List.cons_append, gw, hr]⟩
/-- The parts from the last to the first: those are the text's writes. -/
def down (n k : Nat) : List Nat := (List.range k).map fun j => n - 1 - j
theorem down_succ (n k : Nat) : down n (k + 1) = down n k ++ [n - 1 - k] := by simp [down, List.range_succ]
theorem lastAt_down (bs : List Nat) (k : Nat) (h : k ≤ bs.length) : lastAt bs 0 (down bs.length k) = bs.getD (bs.length - k) 0 := by
  cases k with
  | zero => simp [down, lastAt]
  | succ k =>
    rw [down_succ, lastAt_snoc]
    congr 1
    omega
theorem gw_down (t : Bool) (nm : Nat) (bs : List Nat) (l : List UInt8) : ∀ k, k ≤ bs.length → wsOf t nm bs l bs.length = gw t nm bs l 0 (down bs.length k) ++ wsOf t nm bs l (bs.length - k) := by
  intro k
  induction k with
  | zero => intro _; simp [down, gw]
  | succ k ih =>
    intro hk
    rw [ih (by omega), down_succ, gw_snoc, lastAt_down bs k (by omega), List.append_assoc]
    congr 1
    rw [show bs.length - k = (bs.length - 1 - k) + 1 by omega]
    simp only [wsOf, List.singleton_append]
    have e1 : bs.length - 1 - k + 1 = bs.length - k := by omega
    have e2 : bs.length - 1 - k = bs.length - (k + 1) := by omega
    unfold pblk
    rw [e1, e2]
theorem gw_all (t : Bool) (nm : Nat) (bs : List Nat) (l : List UInt8) : wsOf t nm bs l bs.length = gw t nm bs l 0 (down bs.length bs.length) := by
  have := gw_down t nm bs l bs.length (Nat.le_refl _)
  rw [Nat.sub_self] at this
  simpa [wsOf] using this
theorem back_down (bs : List Nat) (h : 0 < bs.length) (k : Nat) : (back bs h k).map (·.1) = down bs.length k := by simp [back, down]
theorem wrAll_snoc (x : Wr) : ∀ (r : List Wr) (s sk : St), wrAll s r = (0, sk) → wrAll s (r ++ [x]) = if wrE sk (x.1 : Int) x.2.length = 0 then (0, wrS sk (x.1 : Int) x.2) else (wrE sk (x.1 : Int) x.2.length, wrS sk (x.1 : Int) x.2)
  | [], s, sk, h => by
    simp only [wrAll, Prod.mk.injEq, true_and] at h
    subst h
    rfl
  | y :: r, s, sk, h => by
    simp only [wrAll] at h
    simp only [List.cons_append, wrAll]
    split at h
    · rename_i h0
      rw [if_pos h0]
      exact wrAll_snoc x r _ sk h
    · rename_i h0
      simp only [Prod.mk.injEq] at h
      exact absurd h.1 h0
theorem wrAll_stop (r' : List Wr) : ∀ (r : List Wr) (s : St), (wrAll s r).1 ≠ 0 → wrAll s (r ++ r') = wrAll s r
  | [], s, h => by simp [wrAll] at h
  | y :: r, s, h => by
    simp only [wrAll] at h
    simp only [List.cons_append, wrAll]
    split
    · rename_i h0
      rw [if_pos h0] at h
      exact wrAll_stop r' r _ h
    · rfl
theorem wrAll_len : ∀ (r : List Wr) (s : St), (wrAll s r).2.ws.length ≤ s.ws.length + r.length
  | [], s => by simp [wrAll]
  | y :: r, s => by
    simp only [wrAll, List.length_cons]
    have h1 := wrS_len s (y.1 : Int) y.2
    split
    · have := wrAll_len r (wrS s (y.1 : Int) y.2)
      omega
    · show (wrS s (y.1 : Int) y.2).ws.length ≤ _
      omega
theorem wrAll_nb : ∀ (r : List Wr) (s : St), (wrAll s r).2.nb = s.nb
  | [], s => rfl
  | y :: r, s => by
    simp only [wrAll]
    split
    · rw [wrAll_nb r, wrS_nb]
    · exact wrS_nb _ _ _
set_option maxRecDepth 100000 in
set_option maxHeartbeats 1000000 in
/-- turnFor. -/
theorem turn_any {w : World} {F : List Nat} {p q : Nat} {s : St} (hD : IsD w F q s) (c0 : w.cell? ⟨p, 0, none⟩ = some (.pointer (some ⟨q, 0, none⟩))) (hd : s.down = false) (nm : Nat) (hn : nm < s.nb) :
    Calls Try.prog 45 #[.pointer (some ⟨p, 0, none⟩), .int .i64 (nm : Int)] w fun e w' => ∃ t : Bool, e = .returned (.tuple #[.bool t, .int .i64 0]) ∧ Kept [] w w' := by
  have hnb := hD.ok.nb
  have hrdr := read_ok hD nm hd hn
  have hbl := blk_len s.nb s.ws hD.ok.ws nm
  go_enter Try.func45, Try.ntmps45
  go_wp2_with fail
  refine hrdr.mono ?_
  rintro e w2 ⟨rfl, hR2, k2⟩
  have hr2 := hR2.reads_all hbl
  have hp2 := pin_any nm nm _ _ w2 (by omega) (by omega) hr2
  clear hrdr hR2 hr2 hbl
  generalize w.heap.size = rb at hp2
  go_wp2_with fail
  refine hp2.mono ?_
  rintro e w3 ⟨v3, rfl, hr3, k3, -⟩
  obtain ⟨a3, cp3, rfl, -⟩ := hr3
  clear hp2
  have kk := k2.trans k3 (by simp)
  clear k2 k3
  generalize partOf (plc nm nm) (blk s.ws nm) = P
  generalize decide (isPart (plc nm nm) (blk s.ws nm)) = Z
  obtain ⟨t, lf, nx, l⟩ := P
  simp only
  have hfin := Hid.mk (kk.alloc (.cells #[.bool t, .int .i64 (lf : Int), .int .i64 (nx : Int), .slice a3 l.length cp3] 90))
  clear kk
  generalize l.length = n3 at hfin
  go_wp2
  go_ret2
  exact ⟨_, rfl, hfin.out⟩
end Go.Proofs.Ytilelklcfgemoaa
