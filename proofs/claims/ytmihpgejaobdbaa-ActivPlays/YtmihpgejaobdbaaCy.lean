/-
  strings.Clone, and Copy of a letter.
-/
import Derived.Shelf.Pu.Clone
import Derived.Ground.MpProg
import Derived.Laws.Rows
import Derived.Test.YtmihpgejaobdbaaRs
namespace Go.Proofs.Ytmihpgejaobdbaa
set_option maxRecDepth 100000
open Go.RowKit Go.Shelf
set_option linter.unusedVariables false
def cloneS_ren : Go.Shelf.Ren := ⟨fun | 25 => 26 | n => n, fun | 9 => 9 | 3 => 3 | 4 => 4 | 37 => 58 | 0 => 0 | 47 => 59 | 5 => 5 | n => n, fun | n => n⟩
theorem cloneS : Go.Proofs.LaysPu.n25 Try.prog cloneS_ren := {
  mixed := by kernel_rfl
  f25 := Try.func26.trans (congrArg some (by kernel_rfl))
  t0 := Try.underlying0
  a0 := Try.isAgg0
  z0 := Try.sizeOf0
  v0 := Try.zeroValue0
  i0 := by kernel_rfl
  t3 := Try.underlying3
  a3 := Try.isAgg3
  z3 := Try.sizeOf3
  v3 := Try.zeroValue3
  i3 := by kernel_rfl
  t4 := Try.underlying4
  a4 := Try.isAgg4
  z4 := Try.sizeOf4
  v4 := Try.zeroValue4
  i4 := by kernel_rfl
  t5 := Try.underlying5
  a5 := Try.isAgg5
  z5 := Try.sizeOf5
  v5 := Try.zeroValue5
  i5 := by kernel_rfl
  t9 := Try.underlying9
  a9 := Try.isAgg9
  z9 := Try.sizeOf9
  v9 := Try.zeroValue9
  i9 := by kernel_rfl
  t37 := Try.underlying58
  a37 := Try.isAgg58
  z37 := Try.sizeOf58
  v37 := Try.zeroValue58
  i37 := by kernel_rfl
  t47 := Try.underlying59
  a47 := Try.isAgg59
  z47 := Try.sizeOf59
  v47 := Try.zeroValue59
  i47 := by kernel_rfl }
section
variable {w : World}
set_option maxHeartbeats 1000000 in
theorem clone23 (s : List UInt8) (hs : s.length ≤ 281474976710656) : Calls Try.prog 23 #[Sv s] w fun e w' => e = .returned (Sv s) ∧ Kept [] w w' := by
  have h : Calls Try.prog 26 #[Sv s] w fun e w' => e = .returned (Sv s) ∧ Below w.heap.size w w' := AnyPu.stringslite_Clone cloneS ⟨s.toArray⟩ w (by simpa [ByteArray.size] using hs)
  go_enter Try.func23, Try.ntmps23
  go_wp2_with (go_at_call 26; refine h.mono ?_; rintro e w1 ⟨rfl, hb⟩)
  go_ret
  exact ⟨rfl, ⟨hb.os, hb.tape, hb.output, hb.size, fun k hk _ => hb.block k hk⟩⟩
end
end Go.Proofs.Ytmihpgejaobdbaa
