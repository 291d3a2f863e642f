import Derived.Test.YtpodoiichpnpjaaDoorQ06
import Derived.Test.YtpodoiichpnpjaaDoorQ30
/-
  The program's Run, whole; its result in a box; awake.
-/
namespace Go.Proofs.YtpodoiichpnpjaaDoor
open Go.RowKit
set_option maxRecDepth 100000
set_option linter.unusedVariables false
/-- A letter as a value. -/
abbrev Lval (l : Lt) (av : Value) : Value := .agg #[.string ⟨l.fr.toArray⟩, .int .u64 (l.ser : Int), .int .i64 l.kind, av]
section
variable {w : World} {nv cv av : Value} {p : Pg} {reg : List Int} {l : Lt} {now : Int}
theorem run11 (hG : Glob w) (hI : Ins w nv cv av p reg l now) : Calls Tryd.prog 11 #[.agg #[nv, cv], .agg (BI reg).toArray, Lval l av, .int .i64 now] w fun e w' => ∃ v, e = .returned (.tuple #[v, .int .i64 (resI p reg l now).2]) ∧ IsRs w.heap.size w' v (resI p reg l now).1 ∧ Kept [] w w' := by
  unfold resI
  cases hm : mayI p l now with
  | false => rw [if_neg (by simp)]; exact run11_no hG hI hm
  | true => rw [if_pos rfl]; exact run11_yes hG hI hm _ rfl
end
def z12 : List Value := [.int .i64 0, .int .i64 0, .int .i64 0, .int .i64 0, .int .i64 0, .int .i64 0, .int .i64 0, .int .i64 0, .slice none 0 0, .slice none 0 0, .slice none 0 0, .int .i64 0]
theorem alloc37 (W : World) : (Instr.alloc 37 true (.tuple #[])).run Tryd.prog W = .ok (.pointer (some ⟨W.heap.size, 0, none⟩)) (W.alloc (.cells z12.toArray 37)) := by kernel_rfl
/-- A result in a box of its own. -/
structure ResB (w : World) (g : Nat) (R : Rsl) (ev sn tm : Value) : Prop where
  box : w.heap[g]? = some (.cells (cellsR R.reg ev sn tm R.k).toArray 37 (0, 0))
  ev : ReadsR 2 w ev (rowE R.ev)
  sn : ReadsR 3 w sn (rowS R.sent)
  tm : ReadsR 5 w tm (rowT R.tm)
  r8 : R.reg.length = 8
section
variable {w w' : World} {g : Nat} {R : Rsl} {ev sn tm : Value}
theorem ResB.keep (h : ResB w g R ev sn tm) (k : Kept [] w w') : ResB w' g R ev sn tm := ⟨k.keeps h.box (by simp), h.ev.keep k, h.sn.keep k, h.tm.keep k, h.r8⟩
theorem ResB.c_reg (h : ResB w g R ev sn tm) {i : Nat} {x : Int} (hi : R.reg[i]? = some x) : w.cell? ⟨g, i, none⟩ = some (.int .i64 x) := cell_list h.box (cellsR_reg hi)
theorem ResB.c_ev (h : ResB w g R ev sn tm) : w.cell? ⟨g, 8, none⟩ = some ev := cell_list h.box (cellsR_ev h.r8)
theorem ResB.c_sn (h : ResB w g R ev sn tm) : w.cell? ⟨g, 9, none⟩ = some sn := cell_list h.box (cellsR_sn h.r8)
theorem ResB.c_tm (h : ResB w g R ev sn tm) : w.cell? ⟨g, 10, none⟩ = some tm := cell_list h.box (cellsR_tm h.r8)
theorem ResB.c_k (h : ResB w g R ev sn tm) : w.cell? ⟨g, 11, none⟩ = some (.int .i64 (R.k : Int)) := cell_list h.box (cellsR_k h.r8)
end
/-- Storing it there. -/
theorem res_box {n : Nat} {w : World} {v : Value} {R : Rsl} (h : IsRs n w v R) : ∃ W ev sn tm, (Instr.storeAt 37 (.pointer (some ⟨w.heap.size, 0, none⟩)) v).run Tryd.prog (w.alloc (.cells z12.toArray 37)) = .ok () W ∧ ResB W w.heap.size R ev sn tm ∧ Kept [] w W := by
  obtain ⟨⟨ev, sn, tm, rfl, h1, h2, h3, -⟩, h8⟩ := h
  obtain ⟨a1, c1, f1, -⟩ := h1.form
  obtain ⟨a2, c2, f2, -⟩ := h2.form
  obtain ⟨a3, c3, f3, -⟩ := h3.form
  have k1 := (Kept.refl [] w).alloc (.cells z12.toArray 37)
  have hl : (cellsR R.reg ev sn tm R.k).length = 12 := by rw [cellsR_length, h8]
  obtain ⟨W, s1, s2, s3⟩ := store_whole (P := Tryd.prog) (X := cellsR R.reg ev sn tm R.k) (heap_alloc_new w (.cells z12.toArray 37)) (by rw [hl]; rfl) (by rw [hl]; exact size37) (cellsR_one (by rw [f1]; rfl) (by rw [f2]; rfl) (by rw [f3]; rfl))
  have kk : Kept [] w W := k1.trans s3 (fun x hx => .inr (by simp at hx; omega))
  exact ⟨W, ev, sn, tm, s1, ⟨s2, h1.keep kk, h2.keep kk, h3.keep kk, h8⟩, kk⟩
/-- A program that was built in fresh rows. -/
theorem prog_fresh {w : World} {g : Nat} {C : List In} (h : w.heap[g]? = some (.cells (rowI C).flatten.toArray 60 (0, 0))) (hl : C.length ≤ 1000) : ReadsR 2 w (.slice (some ⟨g, 0, none⟩) C.length C.length) (rowI C) :=
  (ownsR_block h (wideI C) (by rw [rowI_length]) (by unfold maxLen; omega)).reads (wideI C)
theorem ints_fresh {w : World} {g : Nat} {C : List Int} (h : w.heap[g]? = some (.cells (rowJ C).flatten.toArray 2 (0, 0))) (hl : C.length ≤ 1000) : ReadsR 1 w (.slice (some ⟨g, 0, none⟩) C.length C.length) (rowJ C) :=
  (ownsR_block h (wideJ C) (by rw [rowJ_length]) (by unfold maxLen; omega)).reads (wideJ C)
def pgA : Pg := ⟨[], [⟨2, 0⟩, ⟨4, 0⟩, ⟨6, 0⟩, ⟨3, 0⟩]⟩
def resA : Rsl × Int := (⟨[8, 0, 0, 0, 0, 0, 0, 0], [⟨0, 8⟩], [], [], 4⟩, 0)
theorem resA_eq : resI pgA [5, 0, 0, 0, 0, 0, 0, 0] ⟨[], 0, 0, [3]⟩ 0 = resA := by rfl
theorem okpA : OkP pgA := fun x hx => by
  simp [pgA] at hx
  rcases hx with rfl | rfl | rfl | rfl <;> (unfold I64; decide)
theorem lok_of {l : Lt} (h1 : l.ser < 18446744073709551616) (h2 : I64 l.kind) (h3 : ∀ z ∈ l.args, I64 z) : l.ok := ⟨h1, h2, h3⟩
theorem i64_lit {z : Int} (h : -9223372036854775808 ≤ z ∧ z ≤ 9223372036854775807) : I64 z := by unfold I64; omega
section
variable {w : World}
set_option maxHeartbeats 4000000 in
theorem awake9 (hG : Glob w) : Calls Tryd.prog 9 #[] w fun e w' => e = .returned (.bool true) ∧ Kept [] w w' := by
  obtain ⟨W0, e0, k0, hz0, hb0, hb1⟩ := box2 w (.cells #[.int .i64 2, .int .i64 0, .int .i64 4, .int .i64 0, .int .i64 6, .int .i64 0, .int .i64 3, .int .i64 0] 60) (.cells #[.int .i64 3] 2)
  have hI : Ins W0 (.slice none 0 0) (.slice (some ⟨w.heap.size, 0, none⟩) 4 4) (.slice (some ⟨w.heap.size + 1, 0, none⟩) 1 1) pgA [5, 0, 0, 0, 0, 0, 0, 0] ⟨[], 0, 0, [3]⟩ 0 :=
    ⟨⟨ReadsR.nil 1 W0, prog_fresh (C := pgA.code) hb0 (by decide)⟩, by simp [pgA], okpA, ints_fresh (C := [3]) hb1 (by decide), lok_of (by decide) (i64_lit (by decide)) (fun z hz => by simp at hz; subst hz; exact i64_lit (by decide)), by decide, rfl, fun z hz => by simp at hz; rcases hz with rfl | rfl <;> exact i64_lit (by decide), i64_lit (by decide)⟩
  have hC := run11 (hG.kept k0) hI
  rw [resA_eq] at hC
  have HC := Hid.mk hC
  have HK := Hid.mk k0
  clear hI hC hb0 hb1 k0 hz0
  go_enter Tryd.func9, Tryd.ntmps9
  go_wp2_with (first | (go_at_call 11; refine HC.out.mono ?_; rintro e w1 ⟨v, rfl, hR, k1⟩; obtain ⟨W2, ev, sn, tm, hst, hB, k2⟩ := res_box hR; have K2 := Hid.mk (HK.out.then (k1.then k2)); have c0 : W2.cell? ⟨w1.heap.size, 0, none⟩ = some (.int .i64 8) := hB.c_reg rfl; have c1 : W2.cell? ⟨w1.heap.size, 11, none⟩ = some (.int .i64 4) := hB.c_k; clear hB k1 k2 hR) | (refine wpList_alloc_run 37 rfl rfl _ _ (alloc37 w1) ?_) | (refine wpList_store_run 37 (.tmp 1) (.tmp 14) rfl rfl _ _ rfl rfl _ hst ?_))
  go_ret
  exact ⟨rfl, K2.out⟩
end
end Go.Proofs.YtpodoiichpnpjaaDoor
/-
  The document's Key and Same.
-/
namespace Go.Proofs.YtpodoiichpnpjaaDoor
open Go.RowKit
set_option maxRecDepth 100000
set_option linter.unusedVariables false
section
variable {w : World}
set_option maxHeartbeats 1000000 in
theorem key32 (s : List UInt8) (hs : s.length ≤ 9223372036854775807) : Calls Tryd.prog 33 #[.string ⟨s.toArray⟩] w fun e w' => e = .returned (.bool (isKey s)) ∧ w = w' := by
  have hz : (⟨s.toArray⟩ : ByteArray).size = s.length := by simp [ByteArray.size]
  unfold isKey
  by_cases h1 : 1 ≤ s.length
  · have h1' : (1 : Int) ≤ (s.length : Int) := by omega
    by_cases h2 : s.length ≤ 40
    · have h2' : (s.length : Int) ≤ 40 := by omega
      have e : (decide (1 ≤ s.length) && decide (s.length ≤ 40)) = true := by simp [h1, h2]
      rw [e]
      go_enter Tryd.func33, Tryd.ntmps33
      go_wp2_with fail
      go_ret
      exact ⟨rfl, rfl⟩
    · have h2' : ¬ (s.length : Int) ≤ 40 := by omega
      have e : (decide (1 ≤ s.length) && decide (s.length ≤ 40)) = false := by simp [h2]
      rw [e]
      go_enter Tryd.func33, Tryd.ntmps33
      go_wp2_with fail
      go_ret
      exact ⟨rfl, rfl⟩
  · have h1' : ¬ (1 : Int) ≤ (s.length : Int) := by omega
    have e : (decide (1 ≤ s.length) && decide (s.length ≤ 40)) = false := by simp [h1]
    rw [e]
    go_enter Tryd.func33, Tryd.ntmps33
    go_wp2_with fail
    go_ret
    exact ⟨rfl, rfl⟩
end
end Go.Proofs.YtpodoiichpnpjaaDoor
