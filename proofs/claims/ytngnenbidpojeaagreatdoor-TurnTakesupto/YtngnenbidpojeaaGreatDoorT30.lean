import Derived.Test.YtngnenbidpojeaaGreatDoorT21
import Derived.Test.YtngnenbidpojeaaGreatDoorT26
import Derived.Test.YtngnenbidpojeaaGreatDoorT27
/-
 The document's machine: out: a reminder that is set.
-/
namespace Go.Proofs.YtngnenbidpojeaaGreatDoor
open Go.RowKit
set_option maxRecDepth 100000
set_option linter.unusedVariables false
section
variable {B : Bs} {w w' : World} {p : Nat} {m : Mc} {k : Nat} {sv ev sn tm : Value}
theorem u64_small (z : Int) (h : 0 ≤ z ∧ z < 18446744073709551616) : IntKind.u64.wrap z = z := by
 rw [IntKind.wrap_u64]
 omega
set_option maxHeartbeats 4000000 in
theorem out38_19_bad (h : FSt B w p m k) (n : Nat) (x y : Int) (hx : I64 x) (hnow : 0 ≤ B.now ∧ B.now ≤ 9223372036854775807) (hbad : BadT B.now x y) : Calls Tryz.prog 132 #[.pointer (some ⟨p, 0, none⟩), .agg #[.int .i64 19, .int .i64 (n : Int)], .int .i64 x, .int .i64 y] w fun e w' => e = .returned (.tuple #[.bool false, .int .i64 12]) ∧ FSt B w' p m k := by
 obtain ⟨W0, e0, k0, -, hb⟩ := box1 w (.cells #[.int .i64 19, .int .i64 (n : Int)] 108)
 obtain ⟨y0, y1⟩ := cells2_N hb
 have HM := Hid.mk (h.keep k0)
 obtain ⟨sv, ev, sn, tm, h0⟩ := h.keep k0
 have c6 : W0.cell? ⟨p, 6, none⟩ = some (.int .i64 B.now) := h0.fix rfl
 have e1 : IntKind.u64.wrap B.now = B.now := u64_small _ (by omega)
 unfold I64 at hx
 unfold BadT at hbad
 clear h h0
 generalize B.now = now at *
 by_cases h1 : x < 0
 ·clear hbad
  go_enter Tryz.func132, Tryz.ntmps132
  go_wp2_with fail
  go_ret2
  exact ⟨rfl, HM.out⟩
 ·have e2 : IntKind.u64.wrap x = x := u64_small _ (by omega)
  have e3 : IntKind.u64.wrap (now + x) = now + x := u64_small _ (by omega)
  by_cases h2 : (9223372036854775808 : Int) ≤ now + x
  ·clear hbad
   go_enter Tryz.func132, Tryz.ntmps132
   go_wp2_with fail
   go_ret2
   exact ⟨rfl, HM.out⟩
  ·have h3 : y < 1 := by omega
   clear hbad
   go_enter Tryz.func132, Tryz.ntmps132
   go_wp2_with fail
   go_ret2
   exact ⟨rfl, HM.out⟩
theorem FS.addTmK (h : FS B w p m k sv ev sn tm) (hl : m.tm.length ≤ 900) (x : Tm) : ∃ ad c w2, (Builtin.append_ #[46, 46] 46 #[tm, .slice (some ⟨w.heap.size, 0, none⟩) 1 1]).run Tryz.prog (w.alloc (.cells #[.string ⟨x.nm.toArray⟩, .bool x.can, .int .i64 x.due, .int .i64 x.per, .int .i64 x.kind] 193)) = .ok (.slice ad (m.tm.length + 1) c) w2 ∧ w2.cell? ⟨p, 19, none⟩ = some tm ∧ w2.frozen? ⟨p, 19, none⟩ = false ∧ FSt B (w2.setCell ⟨p, 19, none⟩ (.slice ad (m.tm.length + 1) c)) p { m with tm := m.tm ++ [x] } k ∧ Kept tm.ownBlock.toList w w2 := by
 obtain ⟨ad, c', w2, hrun, c2, f2, H2, HK, H3⟩ := h.rs.addTm2 rt47F tyF_ok (by omega) x 19 (by rw [h.len]) 193 (0, 0) 46
 exact ⟨ad, c', w2, hrun, c2, f2, ⟨sv, _, _, _, H3 2 1 sv _ (by decide) (by decide) h.st, H2⟩, HK⟩
set_option maxHeartbeats 8000000 in
theorem out38_19 (hB : B.Ok) (h : FSt B w p m k) (n : Nat) (s : List UInt8) (hn : B.pg.names[n]? = some s) (x y : Int) (hl : m.tm.length ≤ 900) (hx : I64 x) (hnow : 0 ≤ B.now ∧ B.now ≤ 9223372036854775807) (hbad : ¬ BadT B.now x y) : Calls Tryz.prog 132 #[.pointer (some ⟨p, 0, none⟩), .agg #[.int .i64 19, .int .i64 (n : Int)], .int .i64 x, .int .i64 y] w fun e w' => e = .returned (.tuple #[.bool true, .int .i64 0]) ∧ FSt B w' p { m with tm := m.tm ++ [⟨s, false, B.now + x, y, B.l.kind⟩] } k := by
 obtain ⟨W0, e0, k0, -, hb⟩ := box1 w (.cells #[.int .i64 19, .int .i64 (n : Int)] 108)
 obtain ⟨y0, y1⟩ := cells2_N hb
 obtain ⟨sv, ev, sn, tm, h0⟩ := h.keep k0
 obtain ⟨b, o, c, c0, c1⟩ := h0.c_name hB hn
 have c0 : W0.drew.cell? ⟨p, 0, none⟩ = some (.slice (some ⟨b, o, none⟩) B.pg.names.length c) := c0
 have c1 : W0.drew.cell? ⟨b, o + n, none⟩ = some (.string ⟨s.toArray⟩) := c1
 have c5 : W0.drew.cell? ⟨p, 4, none⟩ = some (.int .i64 B.l.kind) := h0.fix rfl
 have c6 : W0.cell? ⟨p, 6, none⟩ = some (.int .i64 B.now) := h0.fix rfl
 have S1 : W0.drew.cell? ⟨w.heap.size, 1, none⟩ = some (.int .i64 (n : Int)) := y1
 have q0 : (0 : Int) ≤ (n : Int) := by omega
 have q1 : (n : Int) < (B.pg.names.length : Int) := by have := (List.getElem?_eq_some_iff.1 hn).1; omega
 have h1 := h0.keep (Kept.refl [] W0).drew
 obtain ⟨sa, sc, rfl, -, -⟩ := h1.rs.tm.form
 rw [rowT_length] at *
 have c3 : W0.drew.cell? ⟨p, 19, none⟩ = some (.slice sa m.tm.length sc) := h1.c_tm
 obtain ⟨ad, c', w2, hrun, r0, r1, H2, HK2⟩ := h1.addTmK hl ⟨s, false, B.now + x, y, B.l.kind⟩
 have gp : p ∉ (Value.slice sa m.tm.length sc).ownBlock.toList := by
  have := ownsR_ne h1.rs.tm.own h1.rs.box (by decide)
  simpa using this
 have gb : w.heap.size ∉ (Value.slice sa m.tm.length sc).ownBlock.toList := by
  have := ownsR_ne h1.rs.tm.own (p := w.heap.size) (cs := #[.int .i64 19, .int .i64 (n : Int)]) (t := 108) (fz := (0, 0)) hb (by decide)
  simpa using this
 have gn : b ∉ (Value.slice sa m.tm.length sc).ownBlock.toList := fun hm => by
  have h2 := h1.rs.tm.new b (by simpa using hm)
  obtain ⟨a9, c9, b9, d9, e9, -⟩ := hB.prog.form
  have hR9 := hB.prog.names
  rw [e9] at hR9
  obtain ⟨b8, o8, e8, hc8⟩ := names_at hR9 (List.getElem?_eq_some_iff.1 hn).1
  have hf0 : W0.drew.cell? ⟨p, 0, none⟩ = some B.nv := h1.fix rfl
  rw [e9, e8] at hf0
  rw [hf0] at c0
  simp at c0
  have := World.block_lt_of_cell? _ _ hc8
  have : b8 < B.w0.heap.size := this
  omega
 have gbp : ¬ w.heap.size = p := fun e => by obtain ⟨_, _, _, _, h9⟩ := h; have := lt_of_block h9.rs.box; omega
 have gnp : ¬ b = p := fun e => by
  obtain ⟨a9, c9, b9, d9, e9, -⟩ := hB.prog.form
  have hR9 := hB.prog.names
  rw [e9] at hR9
  obtain ⟨b8, o8, e8, hc8⟩ := names_at hR9 (List.getElem?_eq_some_iff.1 hn).1
  have hf0 : W0.drew.cell? ⟨p, 0, none⟩ = some B.nv := h1.fix rfl
  rw [e9, e8] at hf0
  rw [hf0] at c0
  simp at c0
  have h7 : b8 < B.w0.heap.size := World.block_lt_of_cell? _ _ hc8
  have := h1.rs.hp
  omega
 have HM := Hid.mk H2
 dsimp only at hrun
 have hrun' : (Builtin.append_ #[46, 46] 46 #[.slice sa m.tm.length sc, .slice (some ⟨W0.heap.size, 0, none⟩) 1 1]).run Tryz.prog (W0.alloc (.cells #[.string ⟨s.toArray⟩, .bool false, .int .i64 (B.now + x), .int .i64 y, .int .i64 B.l.kind] 193)).drew = .ok (.slice ad (m.tm.length + 1) c') w2 := hrun
 have c4 : (W0.alloc (.cells #[.string ⟨s.toArray⟩, .bool false, .int .i64 (B.now + x), .int .i64 y, .int .i64 B.l.kind] 193)).drew.cell? ⟨p, 19, none⟩ = some (.slice sa m.tm.length sc) := (((Kept.refl [] W0).alloc (.cells #[.string ⟨s.toArray⟩, .bool false, .int .i64 (B.now + x), .int .i64 y, .int .i64 B.l.kind] 193)).drew).cell_eq h0.c_tm
 have kA := ((Kept.refl [] W0).alloc (.cells #[.string ⟨s.toArray⟩, .bool false, .int .i64 (B.now + x), .int .i64 y, .int .i64 B.l.kind] 193)).drew
 have S0 : W0.drew.cell? ⟨p, 0, none⟩ = some (.slice (some ⟨b, o, none⟩) B.pg.names.length c) ∧ W0.drew.cell? ⟨b, o + n, none⟩ = some (.string ⟨s.toArray⟩) ∧ W0.drew.cell? ⟨p, 4, none⟩ = some (.int .i64 B.l.kind) ∧ W0.drew.cell? ⟨w.heap.size, 1, none⟩ = some (.int .i64 (n : Int)) := ⟨c0, c1, c5, S1⟩
 unfold I64 at hx
 have hx0 : ¬ x < 0 := fun h => hbad (.inl h)
 have hx1 : ¬ 9223372036854775807 < B.now + x := fun h => hbad (.inr (.inl h))
 have hy1 : ¬ y < 1 := fun h => hbad (.inr (.inr h))
 have e1 : IntKind.u64.wrap B.now = B.now := u64_small _ (by omega)
 have e2 : IntKind.u64.wrap x = x := u64_small _ (by omega)
 have e3 : IntKind.u64.wrap (B.now + x) = B.now + x := u64_small _ (by omega)
 have e4 : IntKind.i64.wrap (B.now + x) = B.now + x := w64_small _ (by omega)
 have hx2 : ¬ (9223372036854775808 : Int) ≤ B.now + x := by omega
 clear S1
 have S1 : (W0.alloc (.cells #[.string ⟨s.toArray⟩, .bool false, .int .i64 (B.now + x), .int .i64 y, .int .i64 B.l.kind] 193)).drew.cell? ⟨p, 0, none⟩ = some (.slice (some ⟨b, o, none⟩) B.pg.names.length c) ∧ (W0.alloc (.cells #[.string ⟨s.toArray⟩, .bool false, .int .i64 (B.now + x), .int .i64 y, .int .i64 B.l.kind] 193)).drew.cell? ⟨b, o + n, none⟩ = some (.string ⟨s.toArray⟩) ∧ (W0.alloc (.cells #[.string ⟨s.toArray⟩, .bool false, .int .i64 (B.now + x), .int .i64 y, .int .i64 B.l.kind] 193)).drew.cell? ⟨p, 4, none⟩ = some (.int .i64 B.l.kind) ∧ (W0.alloc (.cells #[.string ⟨s.toArray⟩, .bool false, .int .i64 (B.now + x), .int .i64 y, .int .i64 B.l.kind] 193)).drew.cell? ⟨w.heap.size, 1, none⟩ = some (.int .i64 (n : Int)) := ⟨kA.cell_eq S0.1, kA.cell_eq S0.2.1, kA.cell_eq S0.2.2.1, kA.cell_eq S0.2.2.2⟩
 have S2 : w2.cell? ⟨p, 0, none⟩ = some (.slice (some ⟨b, o, none⟩) B.pg.names.length c) ∧ w2.cell? ⟨b, o + n, none⟩ = some (.string ⟨s.toArray⟩) ∧ w2.cell? ⟨p, 4, none⟩ = some (.int .i64 B.l.kind) ∧ w2.cell? ⟨w.heap.size, 1, none⟩ = some (.int .i64 (n : Int)) := ⟨(HK2.cell (World.block_lt_of_cell? _ _ S0.1) gp).trans S0.1, (HK2.cell (World.block_lt_of_cell? _ _ S0.2.1) gn).trans S0.2.1, (HK2.cell (World.block_lt_of_cell? _ _ S0.2.2.1) gp).trans S0.2.2.1, (HK2.cell (World.block_lt_of_cell? _ _ S0.2.2.2) gb).trans S0.2.2.2⟩
 have S3 : (w2.setCell ⟨p, 19, none⟩ (.slice ad (m.tm.length + 1) c')).cell? ⟨p, 0, none⟩ = some (.slice (some ⟨b, o, none⟩) B.pg.names.length c) ∧ (w2.setCell ⟨p, 19, none⟩ (.slice ad (m.tm.length + 1) c')).cell? ⟨b, o + n, none⟩ = some (.string ⟨s.toArray⟩) ∧ (w2.setCell ⟨p, 19, none⟩ (.slice ad (m.tm.length + 1) c')).cell? ⟨p, 4, none⟩ = some (.int .i64 B.l.kind) ∧ (w2.setCell ⟨p, 19, none⟩ (.slice ad (m.tm.length + 1) c')).cell? ⟨w.heap.size, 1, none⟩ = some (.int .i64 (n : Int)) := by
  have kS : Kept [p] w2 (w2.setCell ⟨p, 19, none⟩ (.slice ad (m.tm.length + 1) c')) := (Kept.refl [p] w2).setCell (.inl (by simp)) _
  obtain ⟨sv9, ev9, sn9, tm9, h9⟩ := HM.out
  have e0 : (w2.setCell ⟨p, 19, none⟩ (.slice ad (m.tm.length + 1) c')).cell? ⟨p, 0, none⟩ = some B.nv := h9.fix rfl
  have e1 : W0.drew.cell? ⟨p, 0, none⟩ = some B.nv := h1.fix rfl
  refine ⟨e0.trans (e1.symm.trans c0), (kS.cell (World.block_lt_of_cell? _ _ S2.2.1) (by simp; exact gnp)).trans S2.2.1, h9.fix rfl, (kS.cell (World.block_lt_of_cell? _ _ S2.2.2.2) (by simp; exact gbp)).trans S2.2.2.2⟩
 clear h h0 h1 hB hn H2 hl hrun hbad hx hnow hx1 kA HK2 gp gb gn gnp gbp
 go_enter Tryz.func132, Tryz.ntmps132
 go_wp2_with fail
 refine wp_region_held_drew (S := fun V => V.cell? ⟨p, 0, none⟩ = some (.slice (some ⟨b, o, none⟩) B.pg.names.length c) ∧ V.cell? ⟨b, o + n, none⟩ = some (.string ⟨s.toArray⟩) ∧ V.cell? ⟨p, 4, none⟩ = some (.int .i64 B.l.kind) ∧ V.cell? ⟨w.heap.size, 1, none⟩ = some (.int .i64 (n : Int))) (by kernel_rfl) S0 (fun _ => ?_)
 refine wpAnyH_take (i := 0) (v := ?_) rfl (by kernel_rfl) (by kernel_rfl) (by kernel_rfl) (fun _ _ _ h => h) (Or.inl ⟨by rfl, ?_⟩) S0 ?_
 rotate_left
 ·(intro w hSw; (try dsimp only at hSw); go_simp; try with_reducible rfl)
 go_simp
 refine wpAnyH_take (i := 1) (v := ?_) rfl (by kernel_rfl) (by kernel_rfl) (by kernel_rfl) (fun _ _ _ h => h) (Or.inl ⟨by rfl, ?_⟩) S0 ?_
 rotate_left
 ·(intro w hSw; (try dsimp only at hSw); go_simp; try with_reducible rfl)
 go_simp
 refine wpAnyH_take (i := 2) (v := ?_) rfl (by kernel_rfl) (by kernel_rfl) (by kernel_rfl) (fun _ _ _ h => h) (Or.inl ⟨by rfl, ?_⟩) S0 ?_
 rotate_left
 ·(intro w hSw; (try dsimp only at hSw); go_simp; try with_reducible rfl)
 go_simp
 refine wpAnyH_take (i := 3) (v := ?_) rfl (by kernel_rfl) (by kernel_rfl) (by kernel_rfl) (fun _ _ _ h => h) (Or.inl ⟨by rfl, ?_⟩) S0 ?_
 rotate_left
 ·(intro w hSw; (try dsimp only at hSw); go_simp; try with_reducible rfl)
 go_simp
 refine wpAnyH_take (i := 4) (v := ?_) rfl (by kernel_rfl) (by kernel_rfl) (by kernel_rfl) (fun _ _ _ h => h) (Or.inl ⟨by rfl, ?_⟩) S0 ?_
 rotate_left
 ·(intro w hSw; (try dsimp only at hSw); go_simp; try with_reducible rfl)
 go_simp
 refine wpAnyH_take (i := 6) (v := ?_) rfl (by kernel_rfl) (by kernel_rfl) (by kernel_rfl) (fun _ _ _ h => h) (Or.inl ⟨by rfl, ?_⟩) S0 ?_
 rotate_left
 ·(intro w hSw; (try dsimp only at hSw); go_simp; try with_reducible rfl)
 go_simp
 refine wpAnyH_take (i := 7) (v := ?_) rfl (by kernel_rfl) (by kernel_rfl) (by kernel_rfl) (fun _ _ _ h => h) (Or.inl ⟨by rfl, ?_⟩) S0 ?_
 rotate_left
 ·(intro w hSw; (try dsimp only at hSw); go_simp; try with_reducible rfl)
 go_simp
 refine wpAnyH_take (i := 8) (v := ?_) rfl (by kernel_rfl) (by kernel_rfl) (by kernel_rfl) (fun _ _ _ h => h) (Or.inl ⟨by rfl, ?_⟩) S0 ?_
 rotate_left
 ·(intro w hSw; (try dsimp only at hSw); go_simp; try with_reducible rfl)
 go_simp
 refine wpAnyH_take (i := 9) (v := ?_) rfl (by kernel_rfl) (by kernel_rfl) (by kernel_rfl) (fun _ _ _ h => h) (Or.inl ⟨by rfl, ?_⟩) S0 ?_
 rotate_left
 ·(intro w hSw; (try dsimp only at hSw); go_simp; try with_reducible rfl)
 go_simp
 refine wpAnyH_take (i := 10) (v := ?_) rfl (by kernel_rfl) (by kernel_rfl) (by kernel_rfl) (fun _ _ _ h => h) (Or.inl ⟨by rfl, ?_⟩) S0 ?_
 rotate_left
 ·(intro w hSw; (try dsimp only at hSw); go_simp; try with_reducible rfl)
 go_simp
 refine wpAnyH_take (i := 11) (v := ?_) rfl (by kernel_rfl) (by kernel_rfl) (by kernel_rfl) (fun _ _ _ h => h) (Or.inl ⟨by rfl, ?_⟩) S0 ?_
 rotate_left
 ·(intro w hSw; (try dsimp only at hSw); go_simp; try with_reducible rfl)
 go_simp
 refine wpAnyH_take (i := 12) (v := ?_) rfl (by kernel_rfl) (by kernel_rfl) (by kernel_rfl) (fun _ _ _ h => h) (Or.inl ⟨by rfl, ?_⟩) S0 ?_
 rotate_left
 ·(intro w hSw; (try dsimp only at hSw); go_simp; try with_reducible rfl)
 go_simp
 refine wpAnyH_take (i := 13) (v := ?_) rfl (by kernel_rfl) (by kernel_rfl) (by kernel_rfl) (fun _ _ _ h => h) (Or.inl ⟨by rfl, ?_⟩) S0 ?_
 rotate_left
 ·(intro w hSw; (try dsimp only at hSw); go_simp; try with_reducible rfl)
 go_simp
 refine wpAnyH_take (i := 14) (v := ?_) rfl (by kernel_rfl) (by kernel_rfl) (by kernel_rfl) (fun _ _ _ h => h) (Or.inl ⟨by rfl, ?_⟩) S0 ?_
 rotate_left
 ·(intro w hSw; (try dsimp only at hSw); go_simp; try with_reducible rfl)
 go_simp
 refine wpAnyH_take (i := 15) (v := ?_) rfl (by kernel_rfl) (by kernel_rfl) (by kernel_rfl) (fun _ _ _ h => h) (Or.inl ⟨by rfl, ?_⟩) S0 ?_
 rotate_left
 ·(intro w hSw; (try dsimp only at hSw); go_simp; try with_reducible rfl)
 go_simp
 refine wpAnyH_take (i := 16) (v := ?_) rfl (by kernel_rfl) (by kernel_rfl) (by kernel_rfl) (fun _ _ _ h => h) (Or.inl ⟨by rfl, ?_⟩) S0 ?_
 rotate_left
 ·(intro w hSw; (try dsimp only at hSw); go_simp; try with_reducible rfl)
 go_simp
 refine wpAnyH_take (i := 17) (v := ?_) rfl (by kernel_rfl) (by kernel_rfl) (by kernel_rfl) (fun _ _ _ h => h) (Or.inl ⟨by rfl, ?_⟩) S0 ?_
 rotate_left
 ·(intro w hSw; (try dsimp only at hSw); go_simp; try with_reducible rfl)
 go_simp
 refine wpAnyH_take (i := 18) (v := ?_) rfl (by kernel_rfl) (by kernel_rfl) (by kernel_rfl) (fun _ _ _ h => h) (Or.inl ⟨by rfl, ?_⟩) S0 ?_
 rotate_left
 ·(intro w hSw; (try dsimp only at hSw); go_simp; try with_reducible rfl)
 go_simp
 refine wpAnyH_take (i := 19) (v := ?_) rfl (by kernel_rfl) (by kernel_rfl) (by kernel_rfl) (fun _ _ _ h => h) (Or.inl ⟨by rfl, ?_⟩) S0 ?_
 rotate_left
 ·(intro w hSw; (try dsimp only at hSw); go_simp; try with_reducible rfl)
 go_simp
 refine wpAnyH_take (i := 20) (v := ?_) rfl (by kernel_rfl) (by kernel_rfl) (by kernel_rfl) (fun _ _ _ h => h) (Or.inl ⟨by rfl, ?_⟩) S0 ?_
 rotate_left
 ·(intro w hSw; (try dsimp only at hSw); go_simp; try with_reducible rfl)
 go_simp
 refine wpAnyH_take (i := 21) (v := ?_) rfl (by kernel_rfl) (by kernel_rfl) (by kernel_rfl) (fun _ _ _ h => h) (Or.inl ⟨by rfl, ?_⟩) S0 ?_
 rotate_left
 ·(intro w hSw; (try dsimp only at hSw); go_simp; try with_reducible rfl)
 go_simp
 refine wpAnyH_take (i := 22) (v := ?_) rfl (by kernel_rfl) (by kernel_rfl) (by kernel_rfl) (fun _ _ _ h => h) (Or.inl ⟨by rfl, ?_⟩) S0 ?_
 rotate_left
 ·(intro w hSw; (try dsimp only at hSw); go_simp; try with_reducible rfl)
 go_simp
 refine wpAnyH_take (i := 23) (v := ?_) rfl (by kernel_rfl) (by kernel_rfl) (by kernel_rfl) (fun _ _ _ h => h) (Or.inl ⟨by rfl, ?_⟩) S0 ?_
 rotate_left
 ·(intro w hSw; (try dsimp only at hSw); go_simp; try with_reducible rfl)
 go_simp
 refine wpAnyH_ready (rs := [5, 24]) (by kernel_rfl) (by simp) (AllReadyH.cons rfl (fun K hK => ?_) (AllReadyH.cons rfl (fun K hK => ?_) AllReadyH.nil))
 ·skip
  go_simp
  refine hK.out _ _ S0 (fun _ => ?_)
  clear hK K
  refine wpAnyH_ready (rs := [24]) (by kernel_rfl) (by simp) (AllReadyH.cons rfl (fun K hK => ?_) AllReadyH.nil)
  go_simp
  refine hK.out _ _ S1 (fun _ => ?_)
  clear hK K
  refine wpAnyH_ready (rs := [25]) (by kernel_rfl) (by simp) (AllReadyH.cons rfl (fun K hK => ?_) AllReadyH.nil)
  refine step_append_run 46 (.tmp 83) (.tmp 102) (by rfl) (by rfl) _ _ (by rfl) (by rfl) hrun' (hK.out _ _ S2 (fun _ => ?_))
  clear hK K
  refine wpAnyH_take (i := 26) (v := ?_) rfl (by kernel_rfl) (by kernel_rfl) (by kernel_rfl) (fun _ _ _ h => h) (Or.inl ⟨by rfl, ?_⟩) S2 ?_
  rotate_left
  ·(intro w hSw; (try dsimp only at hSw); go_simp; try with_reducible rfl)
  go_simp
  refine wpAnyH_take (i := 27) (v := ?_) rfl (by kernel_rfl) (by kernel_rfl) (by kernel_rfl) (fun _ _ _ h => h) (Or.inl ⟨by rfl, ?_⟩) S2 ?_
  rotate_left
  ·(intro w hSw; (try dsimp only at hSw); go_simp; try with_reducible rfl)
  go_simp
  refine wpAnyH_take (i := 28) (v := ?_) rfl (by kernel_rfl) (by kernel_rfl) (by kernel_rfl) (fun _ _ _ h => h) (Or.inl ⟨by rfl, ?_⟩) S2 ?_
  rotate_left
  ·(intro w hSw; (try dsimp only at hSw); go_simp; try with_reducible rfl)
  go_simp
  refine wpAnyH_ready (rs := [29]) (by kernel_rfl) (by simp) (AllReadyH.cons rfl (fun K hK => ?_) AllReadyH.nil)
  go_simp
  refine hK.out _ _ S3 (fun _ => ?_)
  clear hK K
  refine wpAnyH_done (by kernel_rfl) ?_ _
  go_wp2_with fail
  go_ret2
  exact ⟨rfl, HM.out⟩
 ·skip
  go_simp
  refine hK.out _ _ S1 (fun _ => ?_)
  clear hK K
  refine wpAnyH_ready (rs := [5]) (by kernel_rfl) (by simp) (AllReadyH.cons rfl (fun K hK => ?_) AllReadyH.nil)
  go_simp
  refine hK.out _ _ S1 (fun _ => ?_)
  clear hK K
  refine wpAnyH_ready (rs := [25]) (by kernel_rfl) (by simp) (AllReadyH.cons rfl (fun K hK => ?_) AllReadyH.nil)
  refine step_append_run 46 (.tmp 83) (.tmp 102) (by rfl) (by rfl) _ _ (by rfl) (by rfl) hrun' (hK.out _ _ S2 (fun _ => ?_))
  clear hK K
  refine wpAnyH_take (i := 26) (v := ?_) rfl (by kernel_rfl) (by kernel_rfl) (by kernel_rfl) (fun _ _ _ h => h) (Or.inl ⟨by rfl, ?_⟩) S2 ?_
  rotate_left
  ·(intro w hSw; (try dsimp only at hSw); go_simp; try with_reducible rfl)
  go_simp
  refine wpAnyH_take (i := 27) (v := ?_) rfl (by kernel_rfl) (by kernel_rfl) (by kernel_rfl) (fun _ _ _ h => h) (Or.inl ⟨by rfl, ?_⟩) S2 ?_
  rotate_left
  ·(intro w hSw; (try dsimp only at hSw); go_simp; try with_reducible rfl)
  go_simp
  refine wpAnyH_take (i := 28) (v := ?_) rfl (by kernel_rfl) (by kernel_rfl) (by kernel_rfl) (fun _ _ _ h => h) (Or.inl ⟨by rfl, ?_⟩) S2 ?_
  rotate_left
  ·(intro w hSw; (try dsimp only at hSw); go_simp; try with_reducible rfl)
  go_simp
  refine wpAnyH_ready (rs := [29]) (by kernel_rfl) (by simp) (AllReadyH.cons rfl (fun K hK => ?_) AllReadyH.nil)
  go_simp
  refine hK.out _ _ S3 (fun _ => ?_)
  clear hK K
  refine wpAnyH_done (by kernel_rfl) ?_ _
  go_wp2_with fail
  go_ret2
  exact ⟨rfl, HM.out⟩
end
section
variable {B : Bs} {w w' : World} {p : Nat} {m : Mc} {k : Nat} {sv ev sn tm : Value}
set_option maxHeartbeats 4000000 in
theorem out38_20 (hB : B.Ok) (h : FSt B w p m k) (n : Nat) (s : List UInt8) (hn : B.pg.names[n]? = some s) (x y : Int) (hl : m.tm.length ≤ 900) : Calls Tryz.prog 132 #[.pointer (some ⟨p, 0, none⟩), .agg #[.int .i64 20, .int .i64 (n : Int)], .int .i64 x, .int .i64 y] w fun e w' => e = .returned (.tuple #[.bool true, .int .i64 0]) ∧ FSt B w' p { m with tm := m.tm ++ [⟨s, true, 0, 0, 0⟩] } k := by
 obtain ⟨W0, e0, k0, -, hb⟩ := box1 w (.cells #[.int .i64 20, .int .i64 (n : Int)] 108)
 obtain ⟨y0, y1⟩ := cells2_N hb
 obtain ⟨sv, ev, sn, tm, h0⟩ := h.keep k0
 obtain ⟨b, o, c, c0, c1⟩ := h0.c_name hB hn
 have c0 : W0.drew.cell? ⟨p, 0, none⟩ = some (.slice (some ⟨b, o, none⟩) B.pg.names.length c) := c0
 have c1 : W0.drew.cell? ⟨b, o + n, none⟩ = some (.string ⟨s.toArray⟩) := c1
 have S1 : W0.drew.cell? ⟨w.heap.size, 1, none⟩ = some (.int .i64 (n : Int)) := y1
 have q0 : (0 : Int) ≤ (n : Int) := by omega
 have q1 : (n : Int) < (B.pg.names.length : Int) := by have := (List.getElem?_eq_some_iff.1 hn).1; omega
 have h1 := h0.keep (Kept.refl [] W0).drew
 obtain ⟨sa, sc, rfl, -, -⟩ := h1.rs.tm.form
 rw [rowT_length] at *
 have c3 : W0.drew.cell? ⟨p, 19, none⟩ = some (.slice sa m.tm.length sc) := h1.c_tm
 obtain ⟨ad, c', w2, hrun, r0, r1, H2⟩ := h1.addTm hl ⟨s, true, 0, 0, 0⟩
 have HM := Hid.mk H2
 dsimp only at hrun
 have hrun' : (Builtin.append_ #[46, 46] 46 #[.slice sa m.tm.length sc, .slice (some ⟨W0.heap.size, 0, none⟩) 1 1]).run Tryz.prog (W0.alloc (.cells #[.string ⟨s.toArray⟩, .bool true, .int .i64 0, .int .i64 0, .int .i64 0] 193)).drew = .ok (.slice ad (m.tm.length + 1) c') w2 := hrun
 have c4 : (W0.alloc (.cells #[.string ⟨s.toArray⟩, .bool true, .int .i64 0, .int .i64 0, .int .i64 0] 193)).drew.cell? ⟨p, 19, none⟩ = some (.slice sa m.tm.length sc) := (((Kept.refl [] W0).alloc (.cells #[.string ⟨s.toArray⟩, .bool true, .int .i64 0, .int .i64 0, .int .i64 0] 193)).drew).cell_eq h0.c_tm
 clear h h0 h1 hB hn H2 hl hrun
 go_enter Tryz.func132, Tryz.ntmps132
 go_wp2_with fail
 go_region_law ((refine step_append_run 46 (.tmp 114) (.tmp 125) (by rfl) (by rfl) _ _ (by rfl) (by rfl) hrun' ?_))
 all_goals
  go_wp2_with fail
  go_ret2
  exact ⟨rfl, HM.out⟩
end
section
variable {B : Bs} {w w' : World} {p : Nat} {m : Mc} {k : Nat} {sv ev sn tm : Value}
theorem sendF_act {op : Nat} {to : List UInt8} {arg x y c : Int} {b : Bool} (hto : (if op = 17 then B.pg.names.getD arg.toNat [] else B.l.fr) = to) (h17 : op = 17 ∨ op = 18) (hne : to ≠ []) (h : SendF B p m k to x y b c w) : OuF B p k (actI B.pg B.l B.now m op 0 arg x y) b c w := by
 unfold actI
 rw [if_neg (by omega), if_neg (by omega), if_neg (by omega), if_neg (by omega), if_neg (by omega), if_neg (by omega), if_neg (by omega), if_pos h17, hto, if_neg hne]
 rcases h with ⟨h1, rfl, rfl, h3⟩ | ⟨h1, rfl, rfl, h3⟩
 ·rw [if_pos (by omega)]; exact ⟨rfl, rfl, m, h3⟩
 ·rw [if_neg (by omega)]; exact ⟨rfl, rfl, h3⟩
theorem out38_17a {arg : Int} (hG : B.Good) (h : FSt B w p m k) (hF : Fit B.pg 17 arg) (x y : Int) (hL : Lite m) (hx : I64 x) : Calls Tryz.prog 132 #[.pointer (some ⟨p, 0, none⟩), .agg #[.int .i64 17, .int .i64 arg], .int .i64 x, .int .i64 y] w fun e w' => Ret2 (OuF B p k (actI B.pg B.l B.now m 17 (effI 17).2 arg x y)) e w' := by
 obtain ⟨a0, a1⟩ := hF.nam (.inl rfl)
 obtain ⟨n, rfl⟩ : ∃ n : Nat, arg = (n : Int) := ⟨arg.toNat, by omega⟩
 obtain ⟨s, h1, h2, h3, h4⟩ := name_of hG (n := n) (by omega)
 refine (out38_17 hG.ok h n s h1 h3 x y hL.2.2).mono fun e w' hh => ?_
 obtain ⟨b, c, rfl, hs⟩ := hh
 exact ⟨b, c, rfl, sendF_act (by rw [if_pos rfl]; exact h2) (.inl rfl) h3 hs⟩
theorem out38_18a {arg : Int} (hG : B.Good) (h : FSt B w p m k) (hF : Fit B.pg 18 arg) (x y : Int) (hL : Lite m) (hx : I64 x) : Calls Tryz.prog 132 #[.pointer (some ⟨p, 0, none⟩), .agg #[.int .i64 18, .int .i64 arg], .int .i64 x, .int .i64 y] w fun e w' => Ret2 (OuF B p k (actI B.pg B.l B.now m 18 (effI 18).2 arg x y)) e w' := by
 refine (out38_18 h arg x y).mono fun e w' hh => ?_
 obtain ⟨b, c, rfl, hs⟩ := hh
 rcases hs with ⟨h1, rfl, rfl, h3⟩ | ⟨h1, h3⟩
 ·refine ⟨_, _, rfl, ?_⟩
  show OuF B p k (actI B.pg B.l B.now m 18 0 arg x y) true 0 w'
  unfold actI
  rw [if_neg (by omega), if_neg (by omega), if_neg (by omega), if_neg (by omega), if_neg (by omega), if_neg (by omega), if_neg (by omega), if_pos (by omega), if_pos (by rw [if_neg (by omega)]; exact h1)]
  exact ⟨rfl, rfl, h3⟩
 ·exact ⟨b, c, rfl, sendF_act (by rw [if_neg (by omega)]) (.inr rfl) h1 h3⟩
theorem out38_19a {arg : Int} (hG : B.Good) (h : FSt B w p m k) (hF : Fit B.pg 19 arg) (x y : Int) (hL : Lite m) (hx : I64 x) : Calls Tryz.prog 132 #[.pointer (some ⟨p, 0, none⟩), .agg #[.int .i64 19, .int .i64 arg], .int .i64 x, .int .i64 y] w fun e w' => Ret2 (OuF B p k (actI B.pg B.l B.now m 19 (effI 19).2 arg x y)) e w' := by
 obtain ⟨a0, a1⟩ := hF.nam (.inr (.inl rfl))
 obtain ⟨n, rfl⟩ : ∃ n : Nat, arg = (n : Int) := ⟨arg.toNat, by omega⟩
 obtain ⟨s, h1, h2, h3, h4⟩ := name_of hG (n := n) (by omega)
 have hA : actI B.pg B.l B.now m 19 (effI 19).2 (n : Int) x y = (if x < 0 ∨ 9223372036854775807 < B.now + x ∨ y < 1 then .err 12 else .go { m with tm := m.tm ++ [⟨s, false, B.now + x, y, B.l.kind⟩] }) := by
  unfold actI
  rw [if_neg (by omega), if_neg (by omega), if_neg (by omega), if_neg (by omega), if_neg (by omega), if_neg (by omega), if_neg (by omega), if_neg (by omega), if_pos rfl, Int.toNat_natCast, h2]
 by_cases hb : BadT B.now x y
 ·refine (out38_19_bad h n x y hx hG.now hb).mono fun e w' hh => ?_
  obtain ⟨rfl, h5⟩ := hh
  refine ⟨_, _, rfl, ?_⟩
  unfold BadT at hb
  rw [hA, if_pos hb]
  exact ⟨rfl, rfl, m, h5⟩
 ·refine (out38_19 hG.ok h n s h1 x y hL.2.1 hx hG.now hb).mono fun e w' hh => ?_
  obtain ⟨rfl, h5⟩ := hh
  refine ⟨_, _, rfl, ?_⟩
  unfold BadT at hb
  rw [hA, if_neg hb]
  exact ⟨rfl, rfl, h5⟩
theorem out38_20a {arg : Int} (hG : B.Good) (h : FSt B w p m k) (hF : Fit B.pg 20 arg) (x y : Int) (hL : Lite m) (hx : I64 x) : Calls Tryz.prog 132 #[.pointer (some ⟨p, 0, none⟩), .agg #[.int .i64 20, .int .i64 arg], .int .i64 x, .int .i64 y] w fun e w' => Ret2 (OuF B p k (actI B.pg B.l B.now m 20 (effI 20).2 arg x y)) e w' := by
 obtain ⟨a0, a1⟩ := hF.nam (.inr (.inr rfl))
 obtain ⟨n, rfl⟩ : ∃ n : Nat, arg = (n : Int) := ⟨arg.toNat, by omega⟩
 obtain ⟨s, h1, h2, h3, h4⟩ := name_of hG (n := n) (by omega)
 refine (out38_20 hG.ok h n s h1 x y hL.2.1).mono fun e w' hh => ?_
 obtain ⟨rfl, h5⟩ := hh
 refine ⟨_, _, rfl, ?_⟩
 have hA : actI B.pg B.l B.now m 20 (effI 20).2 (n : Int) x y = .go { m with tm := m.tm ++ [⟨s, true, 0, 0, 0⟩] } := by
  unfold actI
  rw [if_neg (by omega), if_neg (by omega), if_neg (by omega), if_neg (by omega), if_neg (by omega), if_neg (by omega), if_neg (by omega), if_neg (by omega), if_neg (by omega), if_pos rfl, Int.toNat_natCast, h2]
 rw [hA]
 exact ⟨rfl, rfl, h5⟩
end
end Go.Proofs.YtngnenbidpojeaaGreatDoor
