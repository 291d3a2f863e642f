/-
  sealed: the document's sealed block, in new memory.
-/
import Derived.Test.YtilelklcfgemoaaSChain
import Derived.Laws.OwnMore
namespace Go.Proofs.Ytilelklcfgemoaa
open Go.RowKit
set_option linter.unusedVariables false
theorem make_run (W : World) : (Instr.makeSlice 31 (.int .i64 256) (.int .i64 256)).run Try.prog W = .ok (.slice (some ⟨W.heap.size, 0, none⟩) 256 256) (W.alloc (.cells (C8 (zs 256)).toArray 5)) := by
  obtain ⟨i0, hi, hz0, hz1, hz2⟩ := info_parts inf5
  have h := run_make (P := Try.prog) W 31 5 i0 _ Try.underlying31 hi hz0 .i64 .i64 256 256 (by omega) (by omega) (by rw [hz2]; omega) (by omega)
  rw [h]
  have e : madeCells (Value.int .u8 0).cells (Int.toNat 256 * i0.size) = (C8 (zs 256)).toArray := by
    rw [hz1]
    apply Array.toList_inj.1
    rw [show (Value.int .u8 0).cells = #[.int .u8 0] from rfl, toList_madeCells_one]
    have e0 : B8 0 = .int .u8 0 := by simp [B8]
    show _ = List.map B8 (List.replicate 256 0)
    rw [List.map_replicate, e0]
    rfl
  rw [e]
  rfl
theorem new_row (w : World) (kind : UInt8) : Row (w.alloc (.cells ((C8 (zs 256)).set 8 (.int .u8 (kind.toNat : Int))).toArray 5)) w.heap.size ((zs 256).set 8 kind) := by
  unfold Row
  rw [heap_alloc_new]
  have e : C8 ((zs 256).set 8 kind) = (C8 (zs 256)).set 8 (.int .u8 (kind.toNat : Int)) := by
    unfold C8
    rw [List.map_set]
    rfl
  rw [e]
theorem below_kept {w w' : World} (h : Below w.heap.size w w') : Kept [] w w' := ⟨h.os, h.tape, h.output, h.size, fun k hk _ => h.block k hk⟩
theorem C8_splice (L p : List UInt8) (o : Nat) : (C8 L).take o ++ C8 p ++ (C8 L).drop (o + (C8 p).length) = C8 (splice L o p) := by
  unfold splice
  rw [C8_append, C8_append, C8_length, List.append_assoc]
  unfold C8
  rw [List.map_take, List.map_drop]
/-- 'copy', over a part of a row. -/
theorem copy_part (w : World) (g o dLen dCap : Nat) (L : List UInt8) (a : Option Addr) (n cap : Nat) (p : List UInt8) (hR : Row w g L) (hr : Reads w (.slice a n cap) p) (hn : p.length = n) (h1 : n ≤ dLen) (h2 : o + n ≤ L.length) :
    ∃ w', (Builtin.copy_ #[31, 31] 3 #[.slice (some ⟨g, o, none⟩) dLen dCap, .slice a n cap]).run Try.prog w = .ok (goInt n) w' ∧ Row w' g (splice L o p) ∧ Kept [g] w w' := by
  obtain ⟨i0, hi, hz0, hz1, hz2⟩ := info_parts inf5
  have hs : (Try.prog.info? 5).map (·.size) = some 1 := by rw [hi]; simp [hz1]
  rcases reads_cases hr with ⟨a', c', he, rfl, _⟩ | ⟨b, q, c', he, hh1, hh2, hc⟩
  · injection he with e1 e2 e3
    subst e1 e2 e3
    refine ⟨w, run_copy_none w 31 31 3 5 _ _ _ _ _ _ Try.underlying31 hs (by simp), ?_, Kept.refl _ _⟩
    simpa [splice] using hR
  · injection he with e1 e2 e3
    subst e1 e2 e3
    have hrun := run_copy_row (P := Try.prog) w 31 31 3 5 g o dLen dCap ⟨b, q, none⟩ p.length cap (C8 L).toArray 5 (C8 p) Try.underlying31 hs hR (by rw [C8_length]; exact (Nat.min_eq_left h1).symm) (fun j v hv => by
      simp only [C8, List.getElem?_map, Option.map_eq_some_iff] at hv
      obtain ⟨u, hu, rfl⟩ := hv
      have hadd : (⟨b, q, Option.none⟩ : Addr).add j = ⟨b, q + j, Option.none⟩ := by unfold Addr.add; split <;> simp_all
      rw [hadd]
      exact hc j u hu) (by simp [C8_length]; omega) (C8_one p)
    rw [C8_length] at hrun
    refine ⟨_, hrun, ?_, ⟨rfl, rfl, rfl, by simp [World.setRow], fun k hk hn => setRow_other w g k _ (by intro e; subst e; simp at hn)⟩⟩
    unfold Row
    rw [setRow_heap w g _ _ 5 _ hR, ← C8_splice, C8_length]
theorem Row.reads {w : World} {g : Nat} {L : List UInt8} (h : Row w g L) (o m c : Nat) (M : List UInt8) (hM : M.length = m) (hc : m ≤ c) (hm : c ≤ maxLen) (he : ∀ j u, M[j]? = some u → L[o + j]? = some u) : Reads w (.slice (some ⟨g, o, none⟩) m c) M := by
  subst hM
  exact ⟨_, c, rfl, hc, hm, by simp, fun _ => ⟨g, o, rfl, fun j u hu => h.cell (o + j) u (he j u hu)⟩⟩
theorem Row.reads_all {w : World} {g : Nat} {L : List UInt8} (h : Row w g L) (hl : L.length = 256) : Reads w (.slice (some ⟨g, 0, none⟩) 256 256) L :=
  h.reads 0 256 256 L hl (by omega) (by unfold maxLen; omega) (fun j u hu => by rw [Nat.zero_add]; exact hu)
set_option maxRecDepth 100000 in
set_option maxHeartbeats 400000 in
theorem sealed_walk (kind : UInt8) (place : Nat) (a : Option Addr) (n cap : Nat) (p : List UInt8) (w : World) (hp : place < 4294967296) (hl : n ≤ 242) (hcap : n ≤ cap) (hn : Hid (p.length = n)) (hr : Reads w (.slice a n cap) p) :
    Calls Try.prog 73 #[.int .u8 (kind.toNat : Int), .int .u32 (place : Int), .slice a n cap] w fun e w' => ∃ g, e = .returned (.slice (some ⟨g, 0, none⟩) 256 256) ∧ w.heap.size ≤ g ∧ Row w' g (sealedL kind place p) ∧ Kept [] w w' := by
  have hmk := make_run
  go_enter Try.func73, Try.ntmps73
  go_wp2_with fail
  have hR0 := new_row w kind
  have hk0 : Kept [] w (w.alloc (.cells ((C8 (zs 256)).set 8 (.int .u8 (kind.toNat : Int))).toArray 5)) := (Kept.refl [] w).alloc _
  refine (lay_walk w.heap.size 9 4 247 place _ _ (by omega) (by omega) (by rw [row1_length]; omega) (by omega) hR0).mono ?_
  rintro e w1 ⟨rfl, hR1, hk1⟩
  have hK1 : Kept [] w w1 := hk0.trans hk1 (fun x hx => .inr (by simp at hx; omega))
  clear hR0 hk0 hk1 hmk
  have HL2 : Hid (headL kind place p.length = (layL ((zs 256).set 8 kind) 9 4 place).set 13 (UInt8.ofNat p.length)) := rfl
  have HN2 : Hid ((layL ((zs 256).set 8 kind) 9 4 place).length = 256) := row2_length kind place
  generalize layL ((zs 256).set 8 kind) 9 4 place = L2 at HL2 HN2 hR1
  obtain ⟨u, hu⟩ : ∃ u, L2[13]? = some u := ⟨L2[13]'(by rw [HN2.out]; omega), by simp⟩
  have hc13 := hR1.cell 13 u hu
  have hf13 := hR1.free 13
  have hsz := hR1.lt
  go_wp2_with fail
  have e13 : Value.int .u8 (n : Int) = B8 (UInt8.ofNat n) := B8_of n _ (by omega)
  have hR2 := hR1.set 13 (UInt8.ofNat n)
  have hK2 : Kept [] w (w1.setCell ⟨w.heap.size, 13, none⟩ (B8 (UInt8.ofNat n))) := hK1.setCell (.inr (Nat.le_refl _)) _
  rw [e13]
  have hn' := hn.out
  rw [← hn', ← HL2.out, hn'] at hR2
  generalize w1.setCell ⟨w.heap.size, 13, none⟩ (B8 (UInt8.ofNat n)) = w2 at hR2 hK2 ⊢
  clear hR1 hK1 hc13 hf13 hsz e13 HL2 HN2 hu
  obtain ⟨w3, hrun, hR3, hk3⟩ := copy_part w2 w.heap.size 14 242 242 _ a n cap p hR2 (hr.kept hK2 (by simp)) hn' hl (by rw [headL_length]; omega)
  have hK3 : Kept [] w w3 := hK2.trans hk3 (fun x hx => .inr (by simp at hx; omega))
  rw [hrun]
  rw [← hn', show splice (headL kind place p.length) 14 p = bodyL kind place p from rfl] at hR3
  have HC : Hid (layL (bodyL kind place p) 0 8 (fnv ((bodyL kind place p).drop 8)) = sealedL kind place p) := chain kind place p (by omega)
  have HB : Hid ((bodyL kind place p).length = 256) := bodyL_length kind place p (by omega)
  generalize bodyL kind place p = B at HC HB hR3
  clear hrun hk3 hR2 hK2 hr
  replace hR3 : Row w3.drew w.heap.size B := hR3
  replace hK3 := hK3.drew
  have hrd : Reads w3.drew (.slice (some ⟨w.heap.size, 8, none⟩) 248 248) (B.drop 8) := hR3.reads 8 248 248 _ (by rw [List.length_drop, HB.out]) (by omega) (by unfold maxLen; omega) (fun j u hu => by rw [List.getElem?_drop] at hu; exact hu)
  have hsum := sum_any _ _ _ hrd
  have hlay := lay_walk w.heap.size 0 8 256 (fnv (B.drop 8)) B w3.drew (by omega) (by omega) (by rw [HB.out]; omega) (fnv_lt _) hR3
  generalize fnv (B.drop 8) = S at HC hsum hlay
  generalize layL B 0 8 S = R at HC hlay
  clear hrd hR3
  go_wp2_with fail
  go_region_with (first | (go_at_call 83; refine hsum.mono ?_; rintro e w4 ⟨rfl, rfl⟩) | (go_at_call 82; refine hlay.mono ?_; rintro e w4 ⟨rfl, hR4, hk4⟩))
  all_goals
    go_wp2_with fail
    go_ret
    exact ⟨w.heap.size, rfl, Nat.le_refl _, by rw [← HC.out]; exact hR4, hK3.trans hk4 (fun x hx => .inr (by simp at hx; omega))⟩
end Go.Proofs.Ytilelklcfgemoaa
