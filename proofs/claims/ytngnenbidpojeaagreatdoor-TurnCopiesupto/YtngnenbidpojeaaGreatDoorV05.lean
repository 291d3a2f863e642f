import Derived.Shelf.Pu.Clone
import Derived.Ground.MpProg
import Derived.Laws.Rows
import Derived.Deep.RegionHeld3
import Derived.Lib.Tables
import Derived.Deep.RegionLaw
import Derived.Deep.DrawnRows
import Derived.Test.YtngnenbidpojeaaGreatDoorV01
import Derived.Test.YtngnenbidpojeaaGreatDoorV02
import Derived.Test.YtngnenbidpojeaaGreatDoorV03
import Derived.Test.YtngnenbidpojeaaGreatDoorV04
/-
  strings.Clone, and Copy of a letter.
-/
namespace Go.Proofs.YtngnenbidpojeaaGreatDoor
set_option maxRecDepth 100000
open Go.RowKit Go.Shelf
set_option linter.unusedVariables false
def cloneS_ren : Go.Shelf.Ren := ⟨fun | 25 => 120 | n => n, fun | 9 => 9 | 3 => 3 | 4 => 4 | 37 => 73 | 0 => 0 | 47 => 248 | 5 => 5 | n => n, fun | n => n⟩
theorem cloneS : Go.Proofs.LaysPu.n25 Tryz.prog cloneS_ren := {
  mixed := by kernel_rfl
  f25 := Tryz.func120.trans (congrArg some (by kernel_rfl))
  t0 := Tryz.underlying0
  a0 := Tryz.isAgg0
  z0 := Tryz.sizeOf0
  v0 := Tryz.zeroValue0
  i0 := by kernel_rfl
  t3 := Tryz.underlying3
  a3 := Tryz.isAgg3
  z3 := Tryz.sizeOf3
  v3 := Tryz.zeroValue3
  i3 := by kernel_rfl
  t4 := Tryz.underlying4
  a4 := Tryz.isAgg4
  z4 := Tryz.sizeOf4
  v4 := Tryz.zeroValue4
  i4 := by kernel_rfl
  t5 := Tryz.underlying5
  a5 := Tryz.isAgg5
  z5 := Tryz.sizeOf5
  v5 := Tryz.zeroValue5
  i5 := by kernel_rfl
  t9 := Tryz.underlying9
  a9 := Tryz.isAgg9
  z9 := Tryz.sizeOf9
  v9 := Tryz.zeroValue9
  i9 := by kernel_rfl
  t37 := Tryz.underlying73
  a37 := Tryz.isAgg73
  z37 := Tryz.sizeOf73
  v37 := Tryz.zeroValue73
  i37 := by kernel_rfl
  t47 := Tryz.underlying248
  a47 := Tryz.isAgg248
  z47 := Tryz.sizeOf248
  v47 := Tryz.zeroValue248
  i47 := by kernel_rfl }
section
variable {w : World}
set_option maxHeartbeats 1000000 in
theorem clone32 (s : List UInt8) (hs : s.length ≤ 281474976710656) : Calls Tryz.prog 83 #[Sv s] w fun e w' => e = .returned (Sv s) ∧ Kept [] w w' := by
  have h : Calls Tryz.prog 120 #[Sv s] w fun e w' => e = .returned (Sv s) ∧ Below w.heap.size w w' := AnyPu.stringslite_Clone cloneS ⟨s.toArray⟩ w (by simpa [ByteArray.size] using hs)
  go_enter Tryz.func83, Tryz.ntmps83
  go_wp2_with (go_at_call 120; refine h.mono ?_; rintro e w1 ⟨rfl, hb⟩)
  go_ret
  exact ⟨rfl, ⟨hb.os, hb.tape, hb.output, hb.size, fun k hk _ => hb.block k hk⟩⟩
set_option maxRecDepth 100000 in
set_option maxHeartbeats 1000000 in
/-- Copy: the same letter, its Args in new memory. -/
theorem copy17 (x : Lt) (a : Option Addr) (c : Nat) (hx : ReadsJ w (.slice a x.args.length c) x.args) (hs : x.fr.length ≤ 100000) (hl : x.args.length ≤ 100000) :
    Calls Tryz.prog 75 #[Lv x a c] w fun e w' => ∃ a' c', e = .returned (Lv x a' c') ∧ OwnsJ w' (.slice a' x.args.length c') x.args ∧ Kept [] w w' ∧ Fresh w (.slice a' x.args.length c') := by
  have HC : Hid (∀ W, Calls Tryz.prog 83 #[Sv x.fr] W fun e w' => e = .returned (Sv x.fr) ∧ Kept [] W w') := fun W => clone32 x.fr (by omega)
  have HX := Hid.mk hx
  clear hx
  go_enter Tryz.func75, Tryz.ntmps75
  go_wp2_with fail
  obtain ⟨W0, e0, k0, hz0, hb0, hb1⟩ := box2 w (.cells #[Sv x.fr, .int .u64 (x.ser : Int), .int .i64 x.kind, .slice a x.args.length c] 81) (.cells #[.string { data := #[] }, .int .u64 0, .int .i64 0, .slice none 0 0] 81)
  rw [e0]
  clear e0
  refine (HC.out _).mono ?_
  rintro e w1 ⟨rfl, k1⟩
  have hb2 := k1.keeps hb0 (by simp)
  have hb3 := k1.keeps hb1 (by simp)
  have k2 := k0.trans k1 (by simp)
  have hz2 := k1.size
  have hz3 : w.heap.size + 2 ≤ w1.heap.size := by omega
  have HZ := Hid.mk hz3
  clear hz3 hz2 hz0 hb0 hb1
  obtain ⟨c0, -, -, c3⟩ := cells4 hb2
  obtain ⟨f0, -, -, f3⟩ := free4 hb2
  have k3 : Kept [] w (w1.setCell ⟨w.heap.size, 0, none⟩ (Sv x.fr)) := k2.setCell (.inr (Nat.le_refl _)) _
  have hb4 := set4_0 (x := Sv x.fr) hb2
  obtain ⟨a2, c2, w2, hrun, ho, hg, hN⟩ := run_appendR rt23 (w1.setCell ⟨w.heap.size, 0, none⟩ (Sv x.fr)) 79 (.slice none 0 0) [] (OwnsR.nil 2 1 _) _ (CJ x.args) (CJ_wide _) (HX.out.kept k3 (by simp)) (by rw [CJ_length]; simp; omega)
  rw [List.nil_append, List.length_nil, Nat.zero_add, CJ_length] at *
  have hz4 : w.heap.size + 2 ≤ w2.heap.size := by
    have := hg.size
    have h := HZ.out
    simp at this
    omega
  have hb5 : w2.heap[w.heap.size]? = _ := (hg.block w.heap.size (by have := HZ.out; simp; omega) (by simp [Value.ownBlock])).trans hb4
  have hb6 : w2.heap[w.heap.size + 1]? = _ := (hg.block (w.heap.size + 1) (by have := HZ.out; simp; omega) (by simp [Value.ownBlock])).trans ((setCell_other (b := w.heap.size) (k := 0) rfl (by omega)).trans hb3)
  have k4 : Kept [] w w2 := k3.grown hg (by simp [Value.ownBlock])
  obtain ⟨c4, c5, c6, c7⟩ := cells4 hb5
  obtain ⟨f4, f5, f6, f7⟩ := free4 hb5
  obtain ⟨d4, d5, d6, d7⟩ := cells4 hb6
  obtain ⟨g4, g5, g6, g7⟩ := free4 hb6
  go_wp2_with (at_builtin; refine wpList_append_run 79 79 _ _ rfl (by rfl) _ _ rfl rfl _ _ hrun ?_)
  have h8 := set4_3 (x := .slice a2 x.args.length c2) (set4_2 (x := .int .i64 x.kind) (set4_1 (x := .int .u64 (x.ser : Int)) (set4_0 (x := Sv x.fr) ((setCell_other (w := w2) (b := w.heap.size) (k := 3) (x := .slice a2 x.args.length c2) rfl (by omega : w.heap.size + 1 ≠ w.heap.size)).trans hb6))))
  have k8 := ((((k4.setCell (p := ⟨w.heap.size, 3, none⟩) (.inr (Nat.le_refl _)) (.slice a2 x.args.length c2)).setCell (p := ⟨w.heap.size + 1, 0, none⟩) (.inr (Nat.le_succ _)) (Sv x.fr)).setCell (p := ⟨w.heap.size + 1, 1, none⟩) (.inr (Nat.le_succ _)) (.int .u64 (x.ser : Int))).setCell (p := ⟨w.heap.size + 1, 2, none⟩) (.inr (Nat.le_succ _)) (.int .i64 x.kind)).setCell (p := ⟨w.heap.size + 1, 3, none⟩) (.inr (Nat.le_succ _)) (.slice a2 x.args.length c2)
  have hfr : ∀ g, (Value.slice a2 x.args.length c2).ownBlock = some g → w.heap.size + 2 ≤ g := fun g hg' => by
    rcases hN g hg' with h | h
    · simp [Value.ownBlock] at h
    · have := HZ.out
      simp at h
      omega
  have kT : Kept [w.heap.size, w.heap.size + 1] w2 _ := ((((((Kept.refl [w.heap.size, w.heap.size + 1] w2).setCell (p := ⟨w.heap.size, 3, none⟩) (.inl (by simp)) (.slice a2 x.args.length c2)).setCell (p := ⟨w.heap.size + 1, 0, none⟩) (.inl (by simp)) (Sv x.fr)).setCell (p := ⟨w.heap.size + 1, 1, none⟩) (.inl (by simp)) (.int .u64 (x.ser : Int))).setCell (p := ⟨w.heap.size + 1, 2, none⟩) (.inl (by simp)) (.int .i64 x.kind)).setCell (p := ⟨w.heap.size + 1, 3, none⟩) (.inl (by simp)) (.slice a2 x.args.length c2))
  refine bodyPost_ret (results_cell_row (p := 2) (ty := 81) rfl _ _ (w.heap.size + 1) 81 _ (0, 0) _ rfl h8 Tryz.underlying81 rfl (by kernel_rfl)) rfl ?_
  refine ⟨a2, c2, rfl, OwnsR.kept ho kT (fun g hg' hm => ?_), k8, fun g hg' => by have := hfr g hg'; omega⟩
  have := hfr g hg'
  simp at hm
  omega
set_option maxRecDepth 100000 in
set_option maxHeartbeats 1000000 in
/-- The document's Copy. -/
theorem copy25 (x : Lt) (a : Option Addr) (c : Nat) (hx : ReadsJ w (.slice a x.args.length c) x.args) (hl : x.args.length ≤ 100000) :
    Calls Tryz.prog 79 #[Lv x a c] w fun e w' => ∃ a' c', e = .returned (Lv x a' c') ∧ OwnsJ w' (.slice a' x.args.length c') x.args ∧ Kept [] w w' ∧ Fresh w (.slice a' x.args.length c') := by
  have HX := Hid.mk hx
  clear hx
  go_enter Tryz.func79, Tryz.ntmps79
  obtain ⟨W0, e0, k0, hz0, hb0, hb1⟩ := box2 w (.cells #[Sv x.fr, .int .u64 (x.ser : Int), .int .i64 x.kind, .slice a x.args.length c] 81) (.cells #[.string { data := #[] }, .int .u64 0, .int .i64 0, .slice none 0 0] 81)
  have hO : OwnsR 2 1 (W0.alloc (.cells #[] 2)) (.slice (some ⟨w.heap.size + 2, 0, none⟩) 0 0) [] := by
    have := World.ownsRow_made (base := 0) (e := 2) (size := 1) W0 #[] 0 (Nat.zero_le _) (by simp) (by simp)
    rw [hz0] at this
    exact this
  have k1 := k0.alloc (.cells #[] 2)
  have hb2 : (W0.alloc (.cells #[] 2)).heap[w.heap.size]? = _ := (Below.heap_alloc _ _ _ (by omega)).trans hb0
  have hb3 : (W0.alloc (.cells #[] 2)).heap[w.heap.size + 1]? = _ := (Below.heap_alloc _ _ _ (by omega)).trans hb1
  have HZ : Hid (w.heap.size + 3 = (W0.alloc (.cells #[] 2)).heap.size) := Hid.mk (by simp [hz0])
  rw [← e0] at hO k1 hb2 hb3 HZ
  clear e0 hb0 hb1 hz0 k0
  generalize hW1 : ((w.alloc (.cells #[Sv x.fr, .int .u64 (x.ser : Int), .int .i64 x.kind, .slice a x.args.length c] 81)).alloc (.cells #[.string { data := #[] }, .int .u64 0, .int .i64 0, .slice none 0 0] 81)).alloc (.cells #[] 2) = W1 at hO k1 hb2 hb3 HZ
  obtain ⟨a2, c2, w2, hrun, ho, hg, hN⟩ := run_appendR rt23 W1 79 _ [] hO _ (CJ x.args) (CJ_wide _) (HX.out.kept k1 (by simp)) (by rw [CJ_length]; simp; omega)
  rw [List.nil_append, List.length_nil, Nat.zero_add, CJ_length] at *
  rw [← hW1] at hrun
  have hz4 : Hid (w.heap.size + 3 ≤ w2.heap.size) := by
    have := hg.size
    have h := HZ.out
    show _ ≤ _
    omega
  have hb5 : w2.heap[w.heap.size]? = _ := (hg.block w.heap.size (by have := HZ.out; omega) (by simp [Value.ownBlock])).trans hb2
  have hb6 : w2.heap[w.heap.size + 1]? = _ := (hg.block (w.heap.size + 1) (by have := HZ.out; omega) (by simp [Value.ownBlock])).trans hb3
  have k4 : Kept [] w w2 := k1.grown hg (by simp [Value.ownBlock])
  have hfr : Hid (∀ g, (Value.slice a2 x.args.length c2).ownBlock = some g → w.heap.size + 2 ≤ g) := fun g hg' => by
    rcases hN g hg' with h | h
    · simp [Value.ownBlock] at h; omega
    · have := HZ.out
      omega
  clear hW1 hO hb2 hb3 k1 hg hN HZ
  obtain ⟨c4, c5, c6, c7⟩ := cells4 hb5
  obtain ⟨f4, f5, f6, f7⟩ := free4 hb5
  obtain ⟨d4, d5, d6, d7⟩ := cells4 hb6
  obtain ⟨g4, g5, g6, g7⟩ := free4 hb6
  go_wp2_with (at_builtin; refine wpList_append_run 79 79 _ _ rfl (by rfl) _ _ rfl rfl _ _ hrun ?_)
  have h7 := (setCell_other (w := w2) (b := w.heap.size) (k := 3) (x := .slice a2 x.args.length c2) rfl (by omega : w.heap.size + 1 ≠ w.heap.size)).trans hb6
  have k7 := k4.setCell (p := ⟨w.heap.size, 3, none⟩) (.inr (Nat.le_refl _)) (.slice a2 x.args.length c2)
  have kT7 := (Kept.refl [w.heap.size, w.heap.size + 1] w2).setCell (p := ⟨w.heap.size, 3, none⟩) (.inl (by simp)) (.slice a2 x.args.length c2)
  obtain ⟨W8, e8, k8, h8, -⟩ := put4 h7 (Sv x.fr) (.int .u64 (x.ser : Int)) (.int .i64 x.kind) (.slice a2 x.args.length c2)
  have kT8 := kT7.trans k8 (by simp)
  rw [e8]
  refine bodyPost_ret (results_cell_row (p := 2) (ty := 81) rfl _ _ (w.heap.size + 1) 81 _ (0, 0) _ rfl h8 Tryz.underlying81 rfl (by kernel_rfl)) rfl ?_
  refine ⟨a2, c2, rfl, OwnsR.kept ho kT8 (fun g hg' hm => ?_), k7.trans k8 (by simp), fun g hg' => by have := hfr.out g hg'; omega⟩
  have := hfr.out g hg'
  simp at hm
  omega
end
end Go.Proofs.YtngnenbidpojeaaGreatDoor
/-
  bits.Len64, as far as the codec leans on it: how many bytes its bits fill.
-/
namespace Go.Proofs.YtngnenbidpojeaaGreatDoor
set_option maxRecDepth 100000
open Go.RowKit
abbrev tabA : List UInt8 := [0, 1, 2, 2, 3, 3, 3, 3, 4, 4, 4, 4, 4, 4, 4, 4, 5, 5, 5, 5, 5, 5, 5, 5, 5, 5, 5, 5, 5, 5, 5, 5, 6, 6, 6, 6, 6, 6, 6, 6, 6, 6, 6, 6, 6, 6, 6, 6, 6, 6, 6, 6, 6, 6, 6, 6, 6, 6, 6, 6, 6, 6, 6, 6]
abbrev tabB : List UInt8 := [7, 7, 7, 7, 7, 7, 7, 7, 7, 7, 7, 7, 7, 7, 7, 7, 7, 7, 7, 7, 7, 7, 7, 7, 7, 7, 7, 7, 7, 7, 7, 7, 7, 7, 7, 7, 7, 7, 7, 7, 7, 7, 7, 7, 7, 7, 7, 7, 7, 7, 7, 7, 7, 7, 7, 7, 7, 7, 7, 7, 7, 7, 7, 7]
abbrev tabC : List UInt8 := [8, 8, 8, 8, 8, 8, 8, 8, 8, 8, 8, 8, 8, 8, 8, 8, 8, 8, 8, 8, 8, 8, 8, 8, 8, 8, 8, 8, 8, 8, 8, 8, 8, 8, 8, 8, 8, 8, 8, 8, 8, 8, 8, 8, 8, 8, 8, 8, 8, 8, 8, 8, 8, 8, 8, 8, 8, 8, 8, 8, 8, 8, 8, 8]
theorem tab_eq : (ByteArray.mk (List.toArray (List.append (List.append tabA tabB) (List.append tabC tabC)))) = Lib.len8tab := by decide +kernel
theorem tab_index (y : Int) (w : World) (h0 : 0 ≤ y) (h1 : y ≤ 255) : (Instr.index 9 (.string Lib.len8tab) (.int .u8 y)).run Tryz.prog w = .ok (.int .u8 (Lib.len8 y)) w := Lib.run_index_len8tab w 9 .u8 y Tryz.underlying9 h0 h1
set_option maxRecDepth 100000 in
set_option maxHeartbeats 1000000 in
theorem len_7 (x : Int) (w : World) (h1 : 72057594037927936 ≤ x) (h2 : x ≤ 18446744073709551615) : Calls Tryz.prog 109 #[.int .u64 x] w fun e w' => e = .returned (.int .i64 (56 + Lib.len8 (x / 4294967296 / 65536 / 256))) ∧ w = w' := by
  have y0 : 0 ≤ x / 4294967296 / 65536 / 256 := by omega
  have y1 : x / 4294967296 / 65536 / 256 ≤ 255 := by omega
  have r := len8_range (x / 4294967296 / 65536 / 256) (by omega) y1
  obtain ⟨r1, r2⟩ := r
  have a1 : 4294967296 ≤ x := by omega
  have a2 : 65536 ≤ x / 4294967296 := by omega
  have a3 : 256 ≤ x / 4294967296 / 65536 := by omega
  have hix := fun w : World => tab_index (x / 4294967296 / 65536 / 256) w y0 y1
  go_enter Tryz.func109, Tryz.ntmps109
  rw [tab_eq]
  generalize Lib.len8tab = T at hix ⊢
  go_wp2
  go_ret
  exact ⟨rfl, rfl⟩
set_option maxRecDepth 100000 in
set_option maxHeartbeats 1000000 in
theorem len_6 (x : Int) (w : World) (h1 : 281474976710656 ≤ x) (h2 : x ≤ 72057594037927935) : Calls Tryz.prog 109 #[.int .u64 x] w fun e w' => e = .returned (.int .i64 (48 + Lib.len8 (x / 4294967296 / 65536))) ∧ w = w' := by
  have y0 : 0 ≤ x / 4294967296 / 65536 := by omega
  have y1 : x / 4294967296 / 65536 ≤ 255 := by omega
  have r := len8_range (x / 4294967296 / 65536) (by omega) y1
  obtain ⟨r1, r2⟩ := r
  have a1 : 4294967296 ≤ x := by omega
  have a2 : 65536 ≤ x / 4294967296 := by omega
  have a3 : x / 4294967296 / 65536 < 256 := by omega
  have hix := fun w : World => tab_index (x / 4294967296 / 65536) w y0 y1
  go_enter Tryz.func109, Tryz.ntmps109
  rw [tab_eq]
  generalize Lib.len8tab = T at hix ⊢
  go_wp2
  go_ret
  exact ⟨rfl, rfl⟩
set_option maxRecDepth 100000 in
set_option maxHeartbeats 1000000 in
theorem len_5 (x : Int) (w : World) (h1 : 1099511627776 ≤ x) (h2 : x ≤ 281474976710655) : Calls Tryz.prog 109 #[.int .u64 x] w fun e w' => e = .returned (.int .i64 (40 + Lib.len8 (x / 4294967296 / 256))) ∧ w = w' := by
  have y0 : 0 ≤ x / 4294967296 / 256 := by omega
  have y1 : x / 4294967296 / 256 ≤ 255 := by omega
  have r := len8_range (x / 4294967296 / 256) (by omega) y1
  obtain ⟨r1, r2⟩ := r
  have a1 : 4294967296 ≤ x := by omega
  have a2 : x / 4294967296 < 65536 := by omega
  have a3 : 256 ≤ x / 4294967296 := by omega
  have hix := fun w : World => tab_index (x / 4294967296 / 256) w y0 y1
  go_enter Tryz.func109, Tryz.ntmps109
  rw [tab_eq]
  generalize Lib.len8tab = T at hix ⊢
  go_wp2
  go_ret
  exact ⟨rfl, rfl⟩
set_option maxRecDepth 100000 in
set_option maxHeartbeats 1000000 in
theorem len_4 (x : Int) (w : World) (h1 : 4294967296 ≤ x) (h2 : x ≤ 1099511627775) : Calls Tryz.prog 109 #[.int .u64 x] w fun e w' => e = .returned (.int .i64 (32 + Lib.len8 (x / 4294967296))) ∧ w = w' := by
  have y0 : 0 ≤ x / 4294967296 := by omega
  have y1 : x / 4294967296 ≤ 255 := by omega
  have r := len8_range (x / 4294967296) (by omega) y1
  obtain ⟨r1, r2⟩ := r
  have a1 : 4294967296 ≤ x := by omega
  have a2 : x / 4294967296 < 65536 := by omega
  have a3 : x / 4294967296 < 256 := by omega
  have hix := fun w : World => tab_index (x / 4294967296) w y0 y1
  go_enter Tryz.func109, Tryz.ntmps109
  rw [tab_eq]
  generalize Lib.len8tab = T at hix ⊢
  go_wp2
  go_ret
  exact ⟨rfl, rfl⟩
set_option maxRecDepth 100000 in
set_option maxHeartbeats 1000000 in
theorem len_3 (x : Int) (w : World) (h1 : 16777216 ≤ x) (h2 : x ≤ 4294967295) : Calls Tryz.prog 109 #[.int .u64 x] w fun e w' => e = .returned (.int .i64 (24 + Lib.len8 (x / 65536 / 256))) ∧ w = w' := by
  have y0 : 0 ≤ x / 65536 / 256 := by omega
  have y1 : x / 65536 / 256 ≤ 255 := by omega
  have r := len8_range (x / 65536 / 256) (by omega) y1
  obtain ⟨r1, r2⟩ := r
  have a1 : x < 4294967296 := by omega
  have a2 : 65536 ≤ x := by omega
  have a3 : 256 ≤ x / 65536 := by omega
  have hix := fun w : World => tab_index (x / 65536 / 256) w y0 y1
  go_enter Tryz.func109, Tryz.ntmps109
  rw [tab_eq]
  generalize Lib.len8tab = T at hix ⊢
  go_wp2
  go_ret
  exact ⟨rfl, rfl⟩
set_option maxRecDepth 100000 in
set_option maxHeartbeats 1000000 in
theorem len_2 (x : Int) (w : World) (h1 : 65536 ≤ x) (h2 : x ≤ 16777215) : Calls Tryz.prog 109 #[.int .u64 x] w fun e w' => e = .returned (.int .i64 (16 + Lib.len8 (x / 65536))) ∧ w = w' := by
  have y0 : 0 ≤ x / 65536 := by omega
  have y1 : x / 65536 ≤ 255 := by omega
  have r := len8_range (x / 65536) (by omega) y1
  obtain ⟨r1, r2⟩ := r
  have a1 : x < 4294967296 := by omega
  have a2 : 65536 ≤ x := by omega
  have a3 : x / 65536 < 256 := by omega
  have hix := fun w : World => tab_index (x / 65536) w y0 y1
  go_enter Tryz.func109, Tryz.ntmps109
  rw [tab_eq]
  generalize Lib.len8tab = T at hix ⊢
  go_wp2
  go_ret
  exact ⟨rfl, rfl⟩
set_option maxRecDepth 100000 in
set_option maxHeartbeats 1000000 in
theorem len_1 (x : Int) (w : World) (h1 : 256 ≤ x) (h2 : x ≤ 65535) : Calls Tryz.prog 109 #[.int .u64 x] w fun e w' => e = .returned (.int .i64 (8 + Lib.len8 (x / 256))) ∧ w = w' := by
  have y0 : 0 ≤ x / 256 := by omega
  have y1 : x / 256 ≤ 255 := by omega
  have r := len8_range (x / 256) (by omega) y1
  obtain ⟨r1, r2⟩ := r
  have a1 : x < 4294967296 := by omega
  have a2 : x < 65536 := by omega
  have a3 : 256 ≤ x := by omega
  have hix := fun w : World => tab_index (x / 256) w y0 y1
  go_enter Tryz.func109, Tryz.ntmps109
  rw [tab_eq]
  generalize Lib.len8tab = T at hix ⊢
  go_wp2
  go_ret
  exact ⟨rfl, rfl⟩
set_option maxRecDepth 100000 in
set_option maxHeartbeats 1000000 in
theorem len_0 (x : Int) (w : World) (h1 : 1 ≤ x) (h2 : x ≤ 255) : Calls Tryz.prog 109 #[.int .u64 x] w fun e w' => e = .returned (.int .i64 (0 + Lib.len8 (x))) ∧ w = w' := by
  have y0 : 0 ≤ x := by omega
  have y1 : x ≤ 255 := by omega
  have r := len8_range (x) (by omega) y1
  obtain ⟨r1, r2⟩ := r
  have a1 : x < 4294967296 := by omega
  have a2 : x < 65536 := by omega
  have a3 : x < 256 := by omega
  have hix := fun w : World => tab_index (x) w y0 y1
  go_enter Tryz.func109, Tryz.ntmps109
  rw [tab_eq]
  generalize Lib.len8tab = T at hix ⊢
  go_wp2
  go_ret
  exact ⟨ret_int (by omega), rfl⟩
/-- Len64 of a number that is more than a byte: its bits fill 'width n' bytes. -/
theorem len_any (n : Nat) (w : World) (h1 : 248 ≤ n) (h2 : n < 18446744073709551616) : Calls Tryz.prog 109 #[.int .u64 (n : Int)] w fun e w' => ∃ m : Int, e = .returned (.int .i64 m) ∧ 0 ≤ m ∧ m ≤ 64 ∧ (m + 7) / 8 = (width n : Int) ∧ w = w' := by
  have key : ∀ (k : Nat) (y : Int), k ≤ 7 → 1 ≤ y → y ≤ 255 → width n = k + 1 → ∀ (e : Ending) (w' : World), e = .returned (.int .i64 (8 * (k : Int) + Lib.len8 y)) ∧ w = w' → ∃ m : Int, e = .returned (.int .i64 m) ∧ 0 ≤ m ∧ m ≤ 64 ∧ (m + 7) / 8 = (width n : Int) ∧ w = w' := by
    rintro k y hk y0 y1 hw e w' ⟨rfl, rfl⟩
    have r := len8_range y y0 y1
    exact ⟨_, rfl, by omega, by omega, by omega, rfl⟩
  unfold width at key
  by_cases c7 : 72057594037927936 ≤ n
  · exact (len_7 n w (by omega) (by omega)).mono fun e w' h => key 7 _ (by omega) (by omega) (by omega) (by (repeat' split) <;> omega) e w' h
  by_cases c6 : 281474976710656 ≤ n
  · exact (len_6 n w (by omega) (by omega)).mono fun e w' h => key 6 _ (by omega) (by omega) (by omega) (by (repeat' split) <;> omega) e w' h
  by_cases c5 : 1099511627776 ≤ n
  · exact (len_5 n w (by omega) (by omega)).mono fun e w' h => key 5 _ (by omega) (by omega) (by omega) (by (repeat' split) <;> omega) e w' h
  by_cases c4 : 4294967296 ≤ n
  · exact (len_4 n w (by omega) (by omega)).mono fun e w' h => key 4 _ (by omega) (by omega) (by omega) (by (repeat' split) <;> omega) e w' h
  by_cases c3 : 16777216 ≤ n
  · exact (len_3 n w (by omega) (by omega)).mono fun e w' h => key 3 _ (by omega) (by omega) (by omega) (by (repeat' split) <;> omega) e w' h
  by_cases c2 : 65536 ≤ n
  · exact (len_2 n w (by omega) (by omega)).mono fun e w' h => key 2 _ (by omega) (by omega) (by omega) (by (repeat' split) <;> omega) e w' h
  by_cases c1 : 256 ≤ n
  · exact (len_1 n w (by omega) (by omega)).mono fun e w' h => key 1 _ (by omega) (by omega) (by omega) (by (repeat' split) <;> omega) e w' h
  · exact (len_0 n w (by omega) (by omega)).mono fun e w' h => key 0 _ (by omega) (by omega) (by omega) (by (repeat' split) <;> omega) e w' h
end Go.Proofs.YtngnenbidpojeaaGreatDoor
/-
  Writer.Number: what it lays.
-/
namespace Go.Proofs.YtngnenbidpojeaaGreatDoor
set_option maxRecDepth 100000
open Go.RowKit
attribute [local go_sem ↓] Go.wp_at_zero Go.wp_at_succ
theorem info5 : (Tryz.prog.info? 5).map (fun i => (i.zero, i.size, i.bytes)) = some (some (.int .u8 0), 1, 1) := by kernel_rfl
set_option maxHeartbeats 1000000 in
theorem wnum_small (p : Nat) (v : Value) (l : List UInt8) (n : Nat) (w : World) (hW : IsW 205 5 w p v l) (hn : n ≤ 247) (hb : l.length + 1 ≤ 140737488355328) :
    Calls Tryz.prog 64 #[.pointer (some ⟨p, 0, none⟩), .int .u64 (n : Int)] w fun e w' => e = .returned (.tuple #[]) ∧ Laid 205 5 w p v (l ++ [UInt8.ofNat n]) w' := by
  obtain ⟨i0, hi, hz0, hz1, hz2⟩ := info_parts info5
  have hcell := cell_of_one hW.box
  have hfree := free_of_one hW.box
  have hlt := hW.lt
  have hown : w.ownsRow 0 5 1 v l.length (C8 l) := hW.own
  go_enter Tryz.func64, Tryz.ntmps64
  go_wp2_with (at_builtin; refine wpList_append_lies _ rfl _ _ _ rfl 0 5 i0 _ 1 1 Tryz.underlying73 hi hz0 hz1 hz2 rfl (by omega) v l.length (C8 l) rfl (hown.alloc _) ⟨w.heap.size, 0, none⟩ 1 1 [.int .u8 (n : Int)] rfl rfl (World.news_of_block (cs := #[.int .u8 (n : Int)]) (t := 5) (fr := (0, 0)) (heap_alloc_new w _)) (by simp [Value.oneCell']) (by omega) (by unfold maxLen; omega) (by omega) (by omega) (w.heap.size + 1) (by simp) ?_; intro g cap w1 hown1 hgrow hat hgl; obtain ⟨hc1, hf1⟩ := ready_store hW ((Kept.refl [] w).alloc _) hgrow)
  refine bodyPost_ret (results_none rfl _ _ _) rfl ?_
  exact ⟨rfl, laid_step hW ((Kept.refl [] w).alloc _) (own_of (by omega) hown1) hgrow (new_of hat)⟩
set_option maxRecDepth 100000 in
set_option maxHeartbeats 1000000 in
theorem wnum_great (p : Nat) (v : Value) (l : List UInt8) (n : Nat) (w : World) (hd : UInt8) (hhd : Hid (hd = UInt8.ofNat (247 + width n))) (hW : IsW 205 5 w p v l) (hn : 248 ≤ n) (hn2 : n < 18446744073709551616) (hb : l.length + 9 ≤ 140737488355328) :
    Calls Tryz.prog 64 #[.pointer (some ⟨p, 0, none⟩), .int .u64 (n : Int)] w fun e w' => e = .returned (.tuple #[]) ∧ Laid 205 5 w p v (l ++ (hd :: digits (width n) n)) w' := by
  obtain ⟨i0, hi, hz0, hz1, hz2⟩ := info_parts info5
  have hcell := cell_of_one hW.box
  have hfree := free_of_one hW.box
  have hlt := hW.lt
  have hown : w.ownsRow 0 5 1 v l.length (C8 l) := hW.own
  have hwp := width_pos n
  obtain ⟨hw1, hw8⟩ := hwp
  go_enter Tryz.func64, Tryz.ntmps64
  go_wp2_with (first | (go_at_call 109; refine (len_any n _ hn hn2).mono ?_; rintro e w' ⟨m, rfl, hm0, hm1, hm2, rfl⟩; have HM : Hid ((m + 7) / 8 = (width n : Int)) := hm2; clear hm2) | (at_builtin; refine wpList_append_lies _ rfl _ _ _ rfl 0 5 i0 _ 1 1 Tryz.underlying73 hi hz0 hz1 hz2 rfl (by omega) v l.length (C8 l) rfl (hown.alloc _) ⟨w.heap.size, 0, none⟩ 1 1 [.int .u8 (247 + (m + 7) / 8)] rfl rfl (World.news_of_block (cs := #[.int .u8 (247 + (m + 7) / 8)]) (t := 5) (fr := (0, 0)) (heap_alloc_new w _)) (by simp [Value.oneCell']) (by omega) (by unfold maxLen; omega) (by omega) (by omega) (w.heap.size + 1) (by simp) ?_; intro g cap w1 hown1 hgrow hat hgl; obtain ⟨hc1, hf1⟩ := ready_store hW ((Kept.refl [] w).alloc _) hgrow))
  rw [HM.out]
  have L1 := laid_step hW ((Kept.refl [] w).alloc _) (own_of (n := 247 + width n) (by have := HM.out; omega) hown1) hgrow (new_of hat)
  rw [← hhd.out] at L1
  clear hown1 hgrow hat hgl hc1 hf1 hcell hfree hown hm0 hm1 HM
  go_loopw [5] (fun i wr => ∃ j : Nat, j ≤ width n ∧ i = .int .i64 ((j : Int) - 1) ∧ Laid 205 5 w p v (l ++ [hd] ++ (digits (width n) n).take (width n - j)) wr) (fun i _ => (intOf i + 1).toNat)
  case atStart => exact ⟨width n, Nat.le_refl _, rfl, by simpa using L1⟩
  case round =>
    obtain ⟨j, hj, rfl, v1, hW1, hk1, hn1⟩ := hrel
    clear L1
    have hll : (l ++ [hd] ++ (digits (width n) n).take (width n - j)).length ≤ l.length + 8 + 1 - j := by
      simp only [List.length_append, List.length_take, digits_length, List.length_cons, List.length_nil]; omega
    have HD : 1 ≤ j → Hid (l ++ [hd] ++ (digits (width n) n).take (width n - (j - 1)) = l ++ [hd] ++ (digits (width n) n).take (width n - j) ++ [UInt8.ofNat (n / 256 ^ (j - 1))]) := fun h1 => by
      show _ = _
      rw [digits_take (width n) n j h1 hj, List.append_assoc _ (List.take _ _)]
    have HE : j = 0 → Hid (l ++ [hd] ++ (digits (width n) n).take (width n - j) = l ++ (hd :: digits (width n) n)) := by
      rintro rfl
      show _ = _
      rw [Nat.sub_zero, List.take_of_length_le (by rw [digits_length]; exact Nat.le_refl _)]; simp
    generalize (l ++ [hd] ++ (digits (width n) n).take (width n - j)) = l1 at hW1 hll HD HE
    have hown : wr.ownsRow 0 5 1 v1 l1.length (C8 l1) := hW1.own
    have hcell := cell_of_one hW1.box
    have hfree := free_of_one hW1.box
    by_cases hj0 : j = 0
    · have HE0 := HE hj0
      clear HD HE
      subst hj0
      go_wp2
      go_end0
      exact ⟨rfl, v1, by rw [← HE0.out]; exact hW1, hk1, hn1⟩
    · obtain ⟨i, rfl⟩ : ∃ i, j = i + 1 := ⟨j - 1, by omega⟩
      have ei : ((i + 1 : Nat) : Int) - 1 = (i : Int) := by omega
      rw [ei]
      clear ei
      have hi7 : (i : Int) ≤ 7 := by omega
      have HD1 := HD (by omega)
      have hwr : IntKind.i64.wrap (8 * (i : Int)) = 8 * (i : Int) := by rw [IntKind.wrap_i64]; omega
      have hltr := hW1.lt
      clear HD HE
      go_wp2_with fail
      go_region_law ((refine step_append_lies _ (by rfl) _ _ _ (by rfl) 0 5 i0 _ 1 1 Tryz.underlying73 hi hz0 hz1 hz2 rfl (by omega) v1 l1.length (C8 l1) (by rfl) ((hown.alloc _).drew) ⟨wr.heap.size, 0, none⟩ 1 1 [_] (by rfl) (by rfl) (World.news_of_block (cs := #[_]) (t := 5) (fr := (0, 0)) (heap_alloc_new wr _)) (by simp [Value.oneCell']) (by omega) (by unfold maxLen; omega) (by omega) (by omega) (wr.heap.size + 1) (by simp) ?_; intro g2 cap2 w2 hown2 hgrow2 hat2 hgl2; obtain ⟨hc2, hf2⟩ := ready_store hW1 ((Kept.refl [] wr).alloc _).drew hgrow2))
      all_goals
        have L2 := laid_step hW1 ((Kept.refl [] wr).alloc _).drew (own_of (byte_shr n i) hown2) hgrow2 (new_of hat2)
        have L3 := Laid.trans hk1 hn1 L2
        clear hown2 hgrow2 hat2 hgl2 hc2 hf2 hown hcell hfree hll
        go_wp2
        go_roundw
        case rel => exact ⟨i, by omega, rfl, by have := HD1.out; rw [Nat.add_sub_cancel] at this; rw [this]; exact L3⟩
        case measure => simp [intOf]
/-- Writer.Number lays a number's bytes. -/
theorem wnum_any (p : Nat) (v : Value) (l : List UInt8) (n : Nat) (w : World) (hW : IsW 205 5 w p v l) (hn : n < 18446744073709551616) (hb : l.length + 9 ≤ 140737488355328) :
    Calls Tryz.prog 64 #[.pointer (some ⟨p, 0, none⟩), .int .u64 (n : Int)] w fun e w' => e = .returned (.tuple #[]) ∧ Laid 205 5 w p v (l ++ enc n) w' := by
  by_cases h : n ≤ 247
  · rw [show enc n = [UInt8.ofNat n] by unfold enc; rw [if_pos h]]
    exact wnum_small p v l n w hW h (by omega)
  · rw [show enc n = UInt8.ofNat (247 + width n) :: digits (width n) n by unfold enc; rw [if_neg h]]
    exact wnum_great p v l n w _ rfl hW (by omega) hn hb
end Go.Proofs.YtngnenbidpojeaaGreatDoor
/-
  Writer.Int and Writer.Text: what they lay.
-/
namespace Go.Proofs.YtngnenbidpojeaaGreatDoor
set_option maxRecDepth 100000
open Go.RowKit
set_option maxHeartbeats 400000 in
theorem wint_any (p : Nat) (v : Value) (l : List UInt8) (z : Int) (w : World) (hW : IsW 205 5 w p v l) (h1 : -9223372036854775808 ≤ z) (h2 : z ≤ 9223372036854775807) (hb : l.length + 9 ≤ 140737488355328) :
    Calls Tryz.prog 110 #[.pointer (some ⟨p, 0, none⟩), .int .i64 z] w fun e w' => e = .returned (.tuple #[]) ∧ Laid 205 5 w p v (l ++ enc (fold z)) w' := by
  have hf := fold_lt z h1 h2
  go_enter Tryz.func110, Tryz.ntmps110
  go_wp2_with (first | (go_at_call 139; refine (fold_any z _ h1 h2).mono ?_; rintro e w' ⟨rfl, rfl⟩) | (go_at_call 64; refine (wnum_any p v l (fold z) _ hW hf hb).mono ?_; rintro e w' ⟨rfl, hL⟩))
  go_end0
  exact ⟨rfl, hL⟩
set_option maxHeartbeats 1000000 in
theorem wtext_any (p : Nat) (v : Value) (l : List UInt8) (s : ByteArray) (w : World) (hW : IsW 205 5 w p v l) (hb : l.length + 9 + s.size ≤ 140737488355328) :
    Calls Tryz.prog 68 #[.pointer (some ⟨p, 0, none⟩), .string s] w fun e w' => e = .returned (.tuple #[]) ∧ Laid 205 5 w p v (l ++ enc s.size ++ s.data.toList) w' := by
  obtain ⟨i0, hi, hz0, hz1, hz2⟩ := info_parts info5
  have hlt := hW.lt
  have hel := enc_length s.size
  obtain ⟨hel1, hel2⟩ := hel
  go_enter Tryz.func68, Tryz.ntmps68
  go_wp2_with (first | (go_at_call 64; refine (wnum_any p v l s.size _ hW (by omega) (by omega)).mono ?_; rintro e w1 ⟨rfl, v1, hW1, hk1, hn1⟩; have hcell := cell_of_one hW1.box; have hfree := free_of_one hW1.box) | (at_builtin; refine wpList_append_str_lies _ rfl _ _ _ _ rfl 5 i0 Tryz.underlying73 Tryz.underlying9 hi hz0 hz1 hz2 v1 (l ++ enc s.size) rfl hW1.own s rfl (by rw [List.length_append]; omega) ?_; intro a2 n2 c2 w2 hown hgrow hat; obtain ⟨hc2, hf2⟩ := ready_store hW1 (Kept.refl [] w1) hgrow))
  go_end0
  exact ⟨rfl, Laid.trans hk1 hn1 (laid_step hW1 (Kept.refl [] w1) hown hgrow hat)⟩
end Go.Proofs.YtngnenbidpojeaaGreatDoor
/-
  awake: the program answers.
-/
namespace Go.Proofs.YtngnenbidpojeaaGreatDoor
set_option maxRecDepth 100000
open Go.RowKit
/-- A new Writer. -/
theorem new_isW (w : World) : IsW 205 5 (w.alloc (.cells #[.slice none 0 0] 205)) w.heap.size (.slice none 0 0) [] :=
  ⟨heap_alloc_new w _, Owns.nil 5 _, by simp [Value.ownBlock]⟩
end Go.Proofs.YtngnenbidpojeaaGreatDoor
