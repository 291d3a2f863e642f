/-
  The statement's own function text: the bytes of a call, so many times over.
-/
import Derived.Test.YtilelklcfgemoaaOps
import Derived.Test.YtilelklcfgemoaaRnd
import Derived.Lib.MinMax
namespace Go.Proofs.Ytilelklcfgemoaa
open Go.RowKit
set_option linter.unusedVariables false

/-- A struct of three cells (type 33), in block b. -/
def Boxed3 (w : World) (b : Nat) (x y z : Value) : Prop := w.heap[b]? = some (.cells #[x, y, z] 33 (0, 0))
theorem Boxed3.kept {S : List Nat} {w w' : World} {b : Nat} {x y z : Value} (h : Boxed3 w b x y z) (k : Kept S w w') (hn : b ∉ S) : Boxed3 w' b x y z := k.keeps h hn
theorem Boxed3.cells {w : World} {b : Nat} {x y z : Value} (h : Boxed3 w b x y z) : w.cell? ⟨b, 0, none⟩ = some x ∧ w.cell? ⟨b, 1, none⟩ = some y ∧ w.cell? ⟨b, 2, none⟩ = some z := by
  unfold Boxed3 at h
  simp [World.cell?, h]
/-- What is appended, behind k rounds. -/
def textAcc (b : List UInt8) : Nat → List UInt8
  | 0 => []
  | k + 1 => if (textAcc b k).length + b.length ≤ 6000 then textAcc b k ++ b else textAcc b k
def textL (x : OpL) : List UInt8 := textAcc x.b (min (max x.n 0) 60).toNat
theorem textAcc_len (b : List UInt8) : ∀ k, (textAcc b k).length ≤ 6000
  | 0 => by simp [textAcc]
  | k + 1 => by
    have := textAcc_len b k
    unfold textAcc
    split
    · rw [List.length_append]; omega
    · exact this
theorem textL_len (x : OpL) : (textL x).length ≤ 6000 := textAcc_len _ _

set_option maxRecDepth 100000 in
set_option maxHeartbeats 600000 in
theorem text_any (x : OpL) (hx : x.ok) (a : Option Addr) (c : Nat) (w : World) (hr : Reads w (.slice a x.b.length c) x.b) :
    Calls Try.prog 12 #[.agg #[.int .i64 x.kind, .int .i64 x.n, .slice a x.b.length c]] w fun e w' => ∃ v', e = .returned v' ∧ Owns 5 w' v' (textL x) ∧ Kept [] w w' ∧ Fresh w v' := by
  obtain ⟨kind, n, B⟩ := x
  unfold OpL.ok at hx
  simp only at hx hr ⊢
  obtain ⟨k, hk⟩ : ∃ k, Hid ((min (max n 0) 60).toNat = k) := ⟨_, rfl⟩
  have hcnt : min (max n 0) 60 = (k : Int) := by have := hk.out; omega
  have hk60 : k ≤ 60 := by have := hk.out; omega
  have hU : textL ⟨kind, n, B⟩ = textAcc B k := by unfold textL; simp only; rw [hk.out]
  rw [hU]
  clear hU
  obtain ⟨m, hm⟩ : ∃ m, Hid (B.length = m) := ⟨_, rfl⟩
  rw [hm.out] at hx hr ⊢
  have k0 := (Kept.refl [] w).alloc (.cells #[.int .i64 kind, .int .i64 n, .slice a m c] 33)
  have hb : (w.alloc (.cells #[.int .i64 kind, .int .i64 n, .slice a m c] 33)).heap[w.heap.size]? = some (.cells #[.int .i64 kind, .int .i64 n, .slice a m c] 33 (0, 0)) := heap_alloc_new w _
  go_enter Try.func12, Try.ntmps12
  go_wp2_with fail
  generalize w.alloc (.cells #[.int .i64 kind, .int .i64 n, .slice a m c] 33) = w0 at k0 hb
  generalize hbx : w.heap.size = b at hb
  go_loopw [3, 8] (fun v i wr => ∃ j : Nat, i = .int .i64 (j : Int) ∧ j ≤ k ∧ Owns 5 wr v (textAcc B j) ∧ Fresh w v ∧ Kept [] w wr ∧ Boxed3 wr b (.int .i64 kind) (.int .i64 n) (.slice a m c)) (fun _ i _ => k - (numOf i).toNat)
  case atStart => exact ⟨0, rfl, Nat.zero_le _, Owns.nil 5 _, by intro g hg; simp [Value.ownBlock] at hg, k0, hb⟩
  case round =>
    clear hb k0
    obtain ⟨j, rfl, hj, hO, hF, hK, hB⟩ := hrel
    obtain ⟨av, cv, hv⟩ := hO.form
    subst hv
    have hlen := textAcc_len B j
    by_cases hlt : j < k
    · have hlt2 : (j : Int) < (k : Int) := by omega
      obtain ⟨c0, c1, c2⟩ := hB.cells
      have hrr := hr.kept hK (by simp)
      by_cases hfit : (textAcc B j).length + m ≤ 6000
      · have hfit2 : ((textAcc B j).length : Int) + (m : Int) ≤ 6000 := by omega
        have hU : textAcc B (j + 1) = textAcc B j ++ B := by
          rw [textAcc, if_pos (by rw [hm.out]; exact hfit)]
        obtain ⟨ad, n1, c1', w1, hrun, hO1, hg1, hN1⟩ := run_append_reads wr 31 _ _ hO _ B hrr (by rw [hm.out]; omega)
        rw [← hU] at hO1
        have k1 : Kept (Value.slice av (textAcc B j).length cv).ownBlock.toList wr w1 := (Kept.refl _ wr).grown hg1 (fun x hx => .inl (by rw [Option.mem_toList]; exact hx))
        have hbn : b ∉ (Value.slice av (textAcc B j).length cv).ownBlock.toList := by
          rw [Option.mem_toList]
          intro e
          rcases hO.2 with ⟨h0, _⟩ | ⟨g, cap, cur, he, _, hg, _⟩
          · rw [h0] at e; simp [Value.ownBlock] at e
          · rw [he] at e
            simp [Value.ownBlock] at e
            subst e
            unfold Boxed3 at hB
            rw [hg] at hB
            injection hB with hB
            injection hB with _ hB
            cases hB
        have hB1 := Hid.mk (hB.kept k1 hbn)
        have kk1 : Hid (Kept [] w w1) := hK.grown hg1 (fun x hx => .inr (hF x hx))
        have hF1 : Hid (Fresh w (.slice ad n1 c1')) := fun g hg => by
          rcases hN1 g hg with h | h
          · exact hF g h
          · exact Nat.le_trans hK.size h
        have hO2 := Hid.mk hO1
        clear hO1 hU hg1 hN1 k1 hbn hB hK hF hO hrr
        generalize (textAcc B j).length = q at hfit hfit2 hlen hrun
        go_wp2_with (at_builtin; refine wpList_append_run 31 _ _ rfl rfl _ _ rfl rfl _ _ hrun ?_)
        exact ⟨⟨j + 1, by go_num, by omega, hO2.out, hF1.out, kk1.out, hB1.out⟩, by simp [numOf]; omega⟩
      · have hfit2 : ¬ ((textAcc B j).length : Int) + (m : Int) ≤ 6000 := by omega
        have hU : textAcc B (j + 1) = textAcc B j := by
          rw [textAcc, if_neg (by rw [hm.out]; exact hfit)]
        have hO2 := Hid.mk hO
        have hF1 := Hid.mk hF
        have kk1 := Hid.mk hK
        have hB1 := Hid.mk hB
        have HU := Hid.mk hU
        clear hO hF hK hB hrr hU
        obtain ⟨q, hq⟩ : ∃ q, Hid ((textAcc B j).length = q) := ⟨_, rfl⟩
        rw [hq.out] at hfit hfit2 hlen hO2 hF1 ⊢
        go_wp2
        exact ⟨⟨j + 1, by go_num, by omega, by rw [HU.out]; exact hO2.out, hF1.out, kk1.out, hB1.out⟩, by simp [numOf]; omega⟩
    · have hjk : j = k := by omega
      subst hjk
      have hlt2 : ¬ (j : Int) < (j : Int) := by omega
      have hO2 := Hid.mk hO
      have hF1 := Hid.mk hF
      have kk1 := Hid.mk hK
      clear hO hF hK
      go_wp2
      go_ret
      exact ⟨_, rfl, hO2.out, kk1.out, hF1.out⟩
end Go.Proofs.Ytilelklcfgemoaa
