import Derived.ChangeKeysEq
import Derived.Deep.QuietTactic
import Derived.BigQuiet
import Derived.Test.YtngnenbidpojeaaGreatDoorT12
import Derived.Test.YtngnenbidpojeaaGreatDoorT13
/-
 The document's journal: drop.
-/
namespace Go.Proofs.YtngnenbidpojeaaGreatDoor
set_option maxRecDepth 100000
open Go.RowKit
set_option linter.unusedVariables false
section
variable {w : World} {f : Nat} {v : Value}
set_option maxHeartbeats 2000000 in
theorem drop29 {b : List Int} {y : Ev} {t : List Ev} {ver : Nat} (hF : IsF_J w f v ⟨b, y :: t, ver⟩) (hy : y.r ≤ 7) (hl : t.length ≤ 900) : Calls Tryz.prog 91 #[.pointer (some ⟨f, 0, none⟩)] w fun e w' => e = .returned (.tuple #[]) ∧ (∃ u, IsF_J w' f u ⟨doE b y, t, ver⟩ ∧ Fresh w u) ∧ Kept [f] w w' := by
 obtain ⟨a, c, rfl, hc1, hc2⟩ := hF.form
 have hn : (y :: t).length = t.length + 1 := rfl
 dsimp only at hc1 hF ⊢
 generalize (y :: t).length = n at *
 have HN := Hid.mk hn
 have hrow := hF.row
 obtain ⟨bb, o, rfl, d0, d1⟩ := rowE_at hrow (j := 0) (y := ofE y) rfl
 rw [Nat.zero_mul, Nat.add_zero] at d0 d1
 obtain ⟨x0, hx0⟩ : ∃ x, b[y.r]? = some x := ⟨_, List.getElem?_eq_getElem (by have := hF.b8; dsimp only at this; omega)⟩
 have c0 := hF.cellA hx0
 have f0 := hF.free y.r
 have c0' : w.drew.cell? ⟨f, y.r, none⟩ = some (Iv x0) := c0
 have f0' : w.drew.frozen? ⟨f, y.r, none⟩ = false := f0
 have S0 : w.drew.cell? ⟨f, 8, none⟩ = some (.slice (some ⟨bb, o, none⟩) n c) ∧ w.drew.cell? ⟨bb, o, none⟩ = some (Iv (y.r : Int)) ∧ w.drew.cell? ⟨bb, o + 1, none⟩ = some (Iv y.v) := ⟨hF.ev, d0, d1⟩
 have hF2 := hF.setA (i := y.r) (by omega) y.v
 have k2 : Kept [f] w (w.setCell ⟨f, y.r, none⟩ (Iv y.v)) := (Kept.refl [f] w).setCell (p := ⟨f, y.r, none⟩) (.inl (by simp)) _
 obtain ⟨bb', o', ebb, d2, d3⟩ := rowE_at hF2.row (j := 0) (y := ofE y) rfl
 injection ebb with ebb
 injection ebb with e1 e2
 subst e1 e2
 rw [Nat.zero_mul, Nat.add_zero] at d2 d3
 have HQ : Hid ((w.setCell ⟨f, y.r, none⟩ (Iv y.v)).drew.cell? ⟨f, 8, none⟩ = some (.slice (some ⟨bb, o, none⟩) n c) ∧ (w.setCell ⟨f, y.r, none⟩ (Iv y.v)).drew.cell? ⟨bb, o, none⟩ = some (Iv (y.r : Int)) ∧ (w.setCell ⟨f, y.r, none⟩ (Iv y.v)).drew.cell? ⟨bb, o + 1, none⟩ = some (Iv y.v)) := ⟨hF2.ev, d2, d3⟩
 have H2 : Hid (IsF_J (w.setCell ⟨f, y.r, none⟩ (Iv y.v)).drew f (.slice (some ⟨bb, o, none⟩) n c) ⟨doE b y, y :: t, ver⟩ ∧ Kept [f] w (w.setCell ⟨f, y.r, none⟩ (Iv y.v)).drew) := ⟨hF2.kept0 (Kept.refl [] _).drew, k2.drew⟩
 have r0 : (0 : Int) ≤ (y.r : Int) := by omega
 have r1 : (y.r : Int) < 8 := by omega
 have g0 : (0 : Int) < (n : Int) := by omega
 have g1 : (1 : Int) ≤ (n : Int) := by omega
 have g3 : 0 < n := by omega
 have g4 : 1 ≤ n := by omega
 have g2 : (n : Int) ≤ (c : Int) := by omega
 clear hF hF2 k2 d0 d1 d2 d3 hrow hx0 hn
 go_enter Tryz.func91, Tryz.ntmps91
 go_wp2_with fail
 go_region_held3 (fun V => V.cell? ⟨f, 8, none⟩ = some (.slice (some ⟨bb, o, none⟩) n c) ∧ V.cell? ⟨bb, o, none⟩ = some (Iv (y.r : Int)) ∧ V.cell? ⟨bb, o + 1, none⟩ = some (Iv y.v)) (first | with_reducible exact S0 | exact HQ.out) (fail)
 generalize (w.setCell ⟨f, y.r, none⟩ (Iv y.v)).drew = W2 at *
 obtain ⟨h2, k2⟩ := H2.out
 obtain ⟨a1, c1, W1, hrun, k1, e8, fz, hR, hf⟩ := drop_tail h2 HN.out (by have := HN.out; omega) (by omega)
 have hcut := fun W => run_cutL rt30 W (some ⟨bb, o, none⟩) n c 1 (by omega)
 have h8 := h2.ev
 have h8' : (W2.alloc (.cells #[] 93)).cell? ⟨f, 8, none⟩ = some (.slice (some ⟨bb, o, none⟩) n c) := ((Kept.refl [] W2).alloc _).cell_eq h8
 have HR : Hid ((∃ u, IsF_J (W1.setCell ⟨f, 8, none⟩ (.slice a1 (n - 1) c1)) f u ⟨doE b y, t, ver⟩ ∧ Fresh w u) ∧ Kept [f] w (W1.setCell ⟨f, 8, none⟩ (.slice a1 (n - 1) c1))) := ⟨⟨_, hR, fun g hg => by have := hf g hg; have := k2.size; omega⟩, (k2.trans k1 (by simp)).setCell (p := ⟨f, 8, none⟩) (.inl (by simp)) _⟩
 clear H2 h2 k2 k1 hR hf S0 HQ c0 f0 c0' f0'
 have hcut2 : ∀ W : World, (Instr.slice 27 (.slice (some ⟨bb, o, none⟩) n c) (some (.int .i64 1)) none none).run Tryz.prog W = .ok (.slice (cutA (some ⟨bb, o, none⟩) c 1 2) (n - 1) (c - 1)) W := hcut
 clear hcut
 go_wp2_with (at_builtin; refine wpList_append_run 27 27 (.tmp 21) (.tmp 26) rfl (by rfl) _ _ rfl rfl _ _ hrun ?_)
 go_end0
 exact ⟨rfl, HR.out⟩
end
section
variable {w : World} {f : Nat} {v : Value} {j : Jn}
set_option maxHeartbeats 2000000 in
theorem rstate30 (h : IsF_J w f v j) (hr : RegJ j) (hl : j.ev.length ≤ 1000) : Calls Tryz.prog 40 #[.pointer (some ⟨f, 0, none⟩)] w fun e w' => e = .returned (.agg (BI (stJ j)).toArray) ∧ Kept [] w w' := by
 obtain ⟨a, c, rfl, hc1, hc2⟩ := h.form
 have hal := alloc29 w
 have hA0 := IsA.new w
 have k0 := (Kept.refl [] w).alloc (.cells (BI z8).toArray 84)
 have hs0 : (w.alloc (.cells (BI z8).toArray 84)).heap.size = w.heap.size + 1 := by simp
 generalize w.alloc (.cells (BI z8).toArray 84) = W0 at *
 have hb8 := h.b8
 have hld : (Instr.loadAt 84 (.pointer (some ⟨f, 0, none⟩))).run Tryz.prog W0 = .ok (.agg (BI j.base).toArray) W0 := run_loadAt_mid W0 f 0 84 _ _ (h.kept0 k0).rangeA Tryz.underlying84 rfl (by rw [BI_length, h.b8]; exact size29)
 have hal1 := alloc29 W0
 have hA1 := IsA.new W0
 have kA := (Kept.refl [] W0).alloc (.cells (BI z8).toArray 84)
 generalize W0.alloc (.cells (BI z8).toArray 84) = W1 at *
 obtain ⟨W2, hst, hA2, kS, hs2⟩ := hA1.store hb8
 have k02 : Kept [] w W2 := (k0.trans kA (by simp)).trans kS (by simp; omega)
 have hA02 : IsA W2 w.heap.size z8 := ⟨kS.keeps (kA.keeps hA0.box (by simp)) (by simp; omega), rfl⟩
 have HF := Hid.mk h
 have c8 := (h.kept0 k02).ev
 have hg : w.heap.size < W0.heap.size := by omega
 have HG := Hid.mk hg
 clear h hA0 k0 hs0 hA1 kA kS hs2 hg
 go_enter Tryz.func40, Tryz.ntmps40
 go_wp2_with (first | (refine wpList_alloc_run 84 rfl rfl _ _ hal ?_) | (refine wpList_load_run 84 (.tmp 7) rfl rfl _ rfl _ hld ?_) | (refine wpList_alloc_run 84 rfl rfl _ _ hal1 ?_) | (refine wpList_store_run 84 (.tmp 3) (.tmp 8) rfl rfl _ _ rfl rfl _ hst ?_))
 clear hal hld hal1 hst c8
 generalize W0.heap.size = g at *
 generalize hn : j.ev.length = n at *
 have HN := Hid.mk hn
 clear hn
 go_loopw [14] (fun i wr => ∃ k : Nat, i = .int .i64 (k : Int) ∧ k ≤ n ∧ Hid (IsA wr g (doA j.base (j.ev.take k)) ∧ IsA wr w.heap.size z8 ∧ Kept [] w wr)) (fun i _ => n - (intOf i).toNat)
 case atStart => exact ⟨0, rfl, by omega, Hid.mk ⟨hA2, hA02, k02⟩⟩
 case round =>
  obtain ⟨k, rfl, hk, H⟩ := hrel
  by_cases hlt : k < n
  ·obtain ⟨y, hy⟩ : ∃ y, j.ev[k]? = some y := ⟨_, List.getElem?_eq_getElem (by have := HN.out; omega)⟩
   have hFr := HF.out.kept0 H.out.2.2
   have hy7 := hr y (List.mem_of_getElem? hy)
   obtain ⟨bb, o, rfl, d0, d1⟩ := rowE_at hFr.row (j := k) (y := ofE y) (by simp [hy])
   have hkI : (k : Int) < (n : Int) := by omega
   have hk0 : (0 : Int) ≤ (k : Int) := by omega
   obtain ⟨c0, hc0⟩ : ∃ c, (doA j.base (j.ev.take k))[y.r]? = some c := ⟨_, List.getElem?_eq_getElem (by rw [H.out.1.a8]; omega)⟩
   have x0 := H.out.1.cell hc0
   have f0 := H.out.1.free y.r
   have x0' : wr.drew.cell? ⟨g, y.r, none⟩ = some (Iv c0) := x0
   have f0' : wr.drew.frozen? ⟨g, y.r, none⟩ = false := f0
   have r0 : (0 : Int) ≤ (y.r : Int) := by omega
   have r1 : (y.r : Int) < 8 := by omega
   have ks : Kept [g] wr (wr.setCell ⟨g, y.r, none⟩ (Iv y.v)) := (Kept.refl [g] wr).setCell (p := ⟨g, y.r, none⟩) (.inl (by simp)) _
   have hgb : g ≠ bb := by
    have hbl := World.block_lt_of_cell? _ _ d0
    intro e
    obtain ⟨b1, o1, e1, q0, -⟩ := rowE_at HF.out.row (j := k) (y := ofE y) (by simp [hy])
    injection e1 with e1
    injection e1 with e1 _
    have := World.block_lt_of_cell? _ _ q0
    have := HG.out
    dsimp only at *
    omega
   have hgf : g ≠ f := by have := HF.out.lt; have := HG.out; omega
   have S0 : wr.drew.cell? ⟨f, 8, none⟩ = some (.slice (some ⟨bb, o, none⟩) n c) ∧ wr.drew.cell? ⟨bb, o + k * 2, none⟩ = some (Iv (y.r : Int)) ∧ wr.drew.cell? ⟨bb, o + k * 2 + 1, none⟩ = some (Iv y.v) := ⟨hFr.ev, d0, d1⟩
   have HQ : Hid ((wr.setCell ⟨g, y.r, none⟩ (Iv y.v)).drew.cell? ⟨f, 8, none⟩ = some (.slice (some ⟨bb, o, none⟩) n c) ∧ (wr.setCell ⟨g, y.r, none⟩ (Iv y.v)).drew.cell? ⟨bb, o + k * 2, none⟩ = some (Iv (y.r : Int)) ∧ (wr.setCell ⟨g, y.r, none⟩ (Iv y.v)).drew.cell? ⟨bb, o + k * 2 + 1, none⟩ = some (Iv y.v)) := by
    refine ⟨(ks.drew.cell (p := ⟨f, 8, none⟩) hFr.lt (by simpa using hgf.symm)).trans hFr.ev, ?_, ?_⟩
    ·exact (ks.drew.cell (p := ⟨bb, o + k * 2, none⟩) (World.block_lt_of_cell? _ _ d0) (by simpa using hgb.symm)).trans d0
    ·exact (ks.drew.cell (p := ⟨bb, o + k * 2 + 1, none⟩) (World.block_lt_of_cell? _ _ d1) (by simpa using hgb.symm)).trans d1
   have HR : Hid (IsA (wr.setCell ⟨g, y.r, none⟩ (Iv y.v)).drew g (doA j.base (j.ev.take (k + 1))) ∧ IsA (wr.setCell ⟨g, y.r, none⟩ (Iv y.v)).drew w.heap.size z8 ∧ Kept [] w (wr.setCell ⟨g, y.r, none⟩ (Iv y.v)).drew) := by
    rw [doA_take hy]
    exact ⟨(H.out.1.set (by omega) y.v).kept0 (Kept.refl [] _).drew, ⟨ks.drew.keeps H.out.2.1.box (by have := HG.out; simp; omega), rfl⟩, (H.out.2.2.trans ks (by have := HG.out; simp; omega)).drew⟩
   clear hA2 hA02 k02 hc0 hy H hFr ks d0 d1
   go_wp2_with fail
   go_region_held3 (fun V => V.cell? ⟨f, 8, none⟩ = some (.slice (some ⟨bb, o, none⟩) n c) ∧ V.cell? ⟨bb, o + k * 2, none⟩ = some (Iv (y.r : Int)) ∧ V.cell? ⟨bb, o + k * 2 + 1, none⟩ = some (Iv y.v)) (first | with_reducible exact S0 | exact HQ.out) (fail)
   clear S0 HQ x0 f0 x0' f0'
   go_wp2_with fail
   go_roundw
   case rel => exact ⟨k + 1, by go_num, by omega, HR⟩
   case measure => simp [intOf]; omega
  ·obtain rfl : k = n := by omega
   have hA := H.out.1
   rw [List.take_of_length_le (by rw [HN.out]; exact Nat.le_refl _)] at hA
   have hld := hA.load
   obtain ⟨W4, hst, hA4, kS, -⟩ := H.out.2.1.store (B := doA j.base j.ev) hA.a8
   have HR : Hid (IsA W4 w.heap.size (doA j.base j.ev) ∧ Kept [] w W4) := ⟨hA4, H.out.2.2.trans kS (by simp)⟩
   clear hA2 hA02 k02 H hA kS hA4
   go_wp2_with (first | (refine wpList_load_run 84 (.tmp 3) rfl rfl _ rfl _ hld ?_) | (refine wpList_store_run 84 (.tmp 2) (.tmp 35) rfl rfl _ _ rfl rfl _ hst ?_))
   exact bodyPost_ret (result29 (u := 2) rfl _ _ w.heap.size _ rfl HR.out.1) rfl ⟨rfl, HR.out.2⟩
end
theorem eight {A : List Int} (h : A.length = 8) : ∃ a0 a1 a2 a3 a4 a5 a6 a7, A = [a0, a1, a2, a3, a4, a5, a6, a7] := by
 match A, h with
 | [a0, a1, a2, a3, a4, a5, a6, a7], _ => exact ⟨a0, a1, a2, a3, a4, a5, a6, a7, rfl⟩
def Cells8 (W : World) (g : Nat) (a0 a1 a2 a3 a4 a5 a6 a7 : Int) : Prop := W.cell? ⟨g, 0, none⟩ = some (Iv a0) ∧ W.cell? ⟨g, 1, none⟩ = some (Iv a1) ∧ W.cell? ⟨g, 2, none⟩ = some (Iv a2) ∧ W.cell? ⟨g, 3, none⟩ = some (Iv a3) ∧ W.cell? ⟨g, 4, none⟩ = some (Iv a4) ∧ W.cell? ⟨g, 5, none⟩ = some (Iv a5) ∧ W.cell? ⟨g, 6, none⟩ = some (Iv a6) ∧ W.cell? ⟨g, 7, none⟩ = some (Iv a7)
theorem cells8 {W : World} {g : Nat} {A : List Int} {a0 a1 a2 a3 a4 a5 a6 a7 : Int} (hA : A = [a0, a1, a2, a3, a4, a5, a6, a7]) (h : ∀ i x, A[i]? = some x → W.cell? ⟨g, i, none⟩ = some (Iv x)) : Cells8 W g a0 a1 a2 a3 a4 a5 a6 a7 := by
 subst hA
 exact ⟨h 0 _ rfl, h 1 _ rfl, h 2 _ rfl, h 3 _ rfl, h 4 _ rfl, h 5 _ rfl, h 6 _ rfl, h 7 _ rfl⟩
theorem equal29 (a0 a1 a2 a3 a4 a5 a6 a7 : Int) (W : World) : (Op.equalIn 10000 84 (.agg #[Iv a0, Iv a1, Iv a2, Iv a3, Iv a4, Iv a5, Iv a6, Iv a7]) (.agg #[Iv a0, Iv a1, Iv a2, Iv a3, Iv a4, Iv a5, Iv a6, Iv a7])).run Tryz.prog W = .ok true W := by
 have hi : ∃ i, Tryz.prog.info? 2 = some i := Option.isSome_iff_exists.1 (by kernel_rfl)
 obtain ⟨i, hi⟩ := hi
 have hg : ∀ W : World, (isAgg 2).run Tryz.prog W = .ok false W := fun W => by kernel_rfl
 have he : ∀ (x : Int) (W : World), (Op.equalIn 9999 2 (.int .i64 x) (.int .i64 x)).run Tryz.prog W = .ok true W := fun x W => by
  rw [run_equalIn_int W 9998 2 .i64 _ x x Tryz.underlying2]; simp
 have hc : Tryz.prog.cellsOf 2 = 1 := by kernel_rfl
 have hr : List.range 8 = [0, 1, 2, 3, 4, 5, 6, 7] := by decide
 rw [run_equalIn_array W 9999 _ _ Tryz.underlying84 hi, hc, hr]
 simp [Op.eqItems, part, hg, he, go_sem]
structure KW (a : World) where
 w : World
 k : Kept [] a w
instance (a : World) : Nonempty (KW a) := ⟨⟨a, Kept.refl [] a⟩⟩
theorem calls_kw {P : Program} {f : FuncId} {args : Array Value} {v : Value} {a : World} {z : KW a} (h : Calls P f args z.w fun e w' => e = .returned v ∧ Kept [] z.w w') : Calls P f args z.w fun e w'' => e = .returned v ∧ ∃ z' : KW a, w'' = z'.w :=
 h.mono fun e w'' h => ⟨h.1, ⟨w'', z.k.trans h.2 (by simp)⟩, rfl⟩
theorem wp_region_kw {P : Program} {C : World → Prop} {id : Nat} {Q : Exit → Act → World → Prop} {a : Act} {w : World} {l : List Oper} (hm : P.follows .mixedOrders = true) (hB : Region.lexB .any l.toArray = true) (hC : C w.drew)
  (h : wpQuiet P l.toArray C (fun a' => ∀ w', C w' → Q .normal a' w') l a) : (Code.region id l.toArray true).wp P Q a w :=
 wp_region_quiet (C := C) hm hB hC (by simpa using h)
section
variable {w : World} {p f : Nat} {v : Value} {j : Jn}
end
section
variable {w : World} {f : Nat} {v : Value} {j : Jn}
theorem ref_lay {W : World} {a : Option Addr} {n c : Nat} {J : Jn} (hF : IsF_J W f (.slice a n c) J) (hn : J.ev.length = n) (hl : n ≤ 900) (y : Ev) :
  ∃ ad c2 W2, (Builtin.append_ #[27, 27] 27 #[.slice a n c, .slice (some ⟨W.heap.size, 0, none⟩) 1 1]).run Tryz.prog (W.alloc (.cells #[Iv (y.r : Int), Iv y.v] 93)) = .ok (.slice ad (n + 1) c2) W2 ∧ W2.cell? ⟨f, 8, none⟩ = some (.slice a n c) ∧ W2.frozen? ⟨f, 8, none⟩ = false ∧
   IsF_J (W2.setCell ⟨f, 8, none⟩ (.slice ad (n + 1) c2)) f (.slice ad (n + 1) c2) ⟨J.base, J.ev ++ [y], J.ver⟩ ∧ New W (.slice a n c) (.slice ad (n + 1) c2) ∧ Kept (foot f (.slice a n c)) W (W2.setCell ⟨f, 8, none⟩ (.slice ad (n + 1) c2)) := by
 obtain ⟨ad, c2, W2, hrun, hO, k2, hN⟩ := append_rowR rt30 hF.own (cellsE (ofE y)) rfl (cellsE_one _) (by rw [CE_length, List.length_map, hn]; omega) 93 (0, 0) 27
 rw [CE_length, List.length_map, hn] at hrun hO hN
 have hO' : OwnsR 93 2 W2 (.slice ad (n + 1) c2) (CE ((J.ev ++ [y]).map ofE)) := by
  rw [List.map_append, CE_append]
  exact hO
 have hb : W2.heap[f]? = some (.cells (cellsF J.base (.slice a n c) J.ver).toArray 137 (0, 0)) := k2.keeps hF.box (by rw [Option.mem_toList]; exact hF.apart)
 have h8 : (cellsF J.base (.slice a n c) J.ver)[8]? = some (.slice a n c) := by
  rw [cellsF, List.getElem?_append_right (by rw [BI_length, hF.b8]; exact Nat.le_refl _), BI_length, hF.b8]
  rfl
 have k3 : Kept [f] W2 (W2.setCell ⟨f, 8, none⟩ (.slice ad (n + 1) c2)) := (Kept.refl [f] W2).setCell (p := ⟨f, 8, none⟩) (.inl (by simp)) _
 refine ⟨ad, c2, W2, hrun, cell_list hb h8, by simp [World.frozen?, hb], ⟨?_, hO'.kept k3 (fun g hg hm => by simp at hm; subst hm; exact ownsR_ne hO' hb (by decide) hg), hF.b8⟩, hN, ?_⟩
 ·rw [set_list hb, cellsF, List.set_append_right _ _ (by rw [BI_length, hF.b8]; exact Nat.le_refl _), BI_length, hF.b8]
  rfl
 ·exact (k2.mono (fun x hx => .inl (mem_foot.2 (.inr (by rw [Option.mem_toList] at hx; exact hx))))).trans k3 (fun x hx => .inl (mem_foot.2 (.inl (by simpa using hx))))
def Fst (w wr : World) (f : Nat) (v : Value) (J : Jn) : Prop := (∃ u, IsF_J wr f u J ∧ New w v u) ∧ Kept (foot f v) w wr
theorem Fst.step {w wr w' : World} {f : Nat} {v u : Value} {J : Jn} (kk : Kept (foot f v) w wr) (hu : New w v u) {u' : Value} (h : IsF_J w' f u' J) (hn : New wr u u') (k : Kept (foot f u) wr w') : Fst w w' f v J := by
 refine ⟨⟨u', h, hu.trans hn kk.size⟩, kk.trans k (fun x hx => ?_)⟩
 rcases mem_foot.1 hx with rfl | h'
 ·exact .inl (mem_foot.2 (.inl rfl))
 ·rcases hu x h' with h2 | h2
  ·exact .inl (mem_foot.2 (.inr h2))
  ·exact .inr h2
theorem addA_reg {j : Jn} (hr : RegJ j) (h16 : j.ev.length ≤ 16) {l : List Ev} (hl : ∀ e ∈ l, e.r ≤ 7) : RegJ (addA j l) ∧ (addA j l).ev.length ≤ 16 := by
 have h1 : ∀ (l : List Ev) (j : Jn), RegJ j → j.ev.length ≤ 16 → (∀ e ∈ l, e.r ≤ 7) → RegJ (pushA j l) ∧ (pushA j l).ev.length ≤ 16 := by
  intro l
  induction l with
  | nil => intro j a b _; exact ⟨a, b⟩
  | cons e l ih => intro j a b c; exact ih (pushJ j e) (a.push (c e (by simp))) (pushJ_len j e b) fun x hx => c x (by simp [hx])
 obtain ⟨h2, h3⟩ := h1 l j hr h16 hl
 rw [addA_eq]
 exact ⟨h2, h3⟩
set_option maxHeartbeats 4000000 in
theorem radd14 {x : Value} {l : List Ep} (hF : IsF_J w f v j) (hr : RegJ j) (h16 : j.ev.length ≤ 16) (hR : ∀ W, Kept (foot f v) w W → ReadsR 2 W x (CE l)) (hl : l.length ≤ 100000) (hv : j.ver + l.length < 18446744073709551616) : Calls Tryz.prog 29 #[.pointer (some ⟨f, 0, none⟩), x] w fun e w' => e = .returned (Iv (addC l)) ∧ Fst w w' f v (addR j l) := by
 obtain ⟨a, c, rfl, hc1, hc2⟩ := rowE_form (hR w (Kept.refl _ _))
 have HF := Hid.mk hF
 have HR := Hid.mk hR
 clear hF hR
 generalize hn : l.length = n at *
 have HN := Hid.mk hn
 clear hn
 have hle := List.findIdx_le_length (p := badE) (xs := l)
 rw [HN.out] at hle
 obtain ⟨P, hP⟩ : ∃ P, Hid (l.findIdx badE = P) := ⟨_, rfl⟩
 rw [hP.out] at hle
 go_enter Tryz.func29, Tryz.ntmps29
 go_wp2_with fail
 go_loopw [9] (fun i wr => ∃ k : Nat, Hid (w = wr) ∧ i = .int .i64 (k : Int) ∧ k ≤ P) (fun i _ => n - (intOf i).toNat)
 case atStart => exact ⟨0, Hid.mk rfl, rfl, by omega⟩
 case round =>
  obtain ⟨k, hw, rfl, hk⟩ := hrel
  obtain rfl := hw.out
  clear hw
  by_cases hlt : k < n
  ·have hkl : k < l.length := by have := HN.out; omega
   obtain ⟨y, hy⟩ : ∃ y, l[k]? = some y := ⟨_, List.getElem?_eq_getElem hkl⟩
   obtain ⟨b, o, rfl, d0, d1⟩ := rowE_at (HR.out w (Kept.refl _ _)) hy
   have hjI : (k : Int) < (n : Int) := by omega
   have hxe : l[k]'hkl = y := (List.getElem?_eq_some_iff.1 hy).2
   by_cases hkP : k < P
   ·have hs : badE y = false := by
     have := List.not_of_lt_findIdx (p := badE) (xs := l) (i := k) (by rw [hP.out]; exact hkP)
     rw [hxe] at this
     simpa using this
    obtain ⟨y0, y8⟩ := badE_no hs
    have g1 : ¬ y.1 < 0 := by omega
    have g2 : ¬ 7 < y.1 := by omega
    clear hy hs hxe
    go_wp2_with fail
    go_roundw
    case rel => exact ⟨k + 1, by trivial, by go_num, by omega⟩
    case measure => simp [intOf]; omega
   ·obtain rfl : k = P := by omega
    have hs : badE y = true := by
     have h1 := List.findIdx_getElem (p := badE) (xs := l) (w := by rw [hP.out]; exact hkl)
     have h2 : l[l.findIdx badE]'(by rw [hP.out]; exact hkl) = y := by
      have : l[l.findIdx badE]? = some y := by rw [hP.out]; exact hy
      exact (List.getElem?_eq_some_iff.1 this).2
     rw [h2] at h1
     exact h1
    have ha : l.any badE = true := List.any_eq_true.2 ⟨y, List.mem_of_getElem? hy, hs⟩
    have HA : Hid (addC l = 3 ∧ addR j l = j) := ⟨by unfold addC; rw [if_pos ha], by unfold addR; rw [if_pos ha]⟩
    have hs2 : y.1 < 0 ∨ 7 < y.1 := by
     simp [badE] at hs
     omega
    clear hy hs hxe ha
    by_cases g1 : y.1 < 0
    ·clear hs2
     go_wp2_with fail
     go_ret
     exact ⟨by rw [HA.out.1]; rfl, by rw [HA.out.2]; exact ⟨⟨_, HF.out, New.refl _ _⟩, Kept.refl _ _⟩⟩
    ·have g2 : 7 < y.1 := by rcases hs2 with h | h; exact absurd h g1; exact h
     clear hs2
     go_wp2_with fail
     go_ret
     exact ⟨by rw [HA.out.1]; rfl, by rw [HA.out.2]; exact ⟨⟨_, HF.out, New.refl _ _⟩, Kept.refl _ _⟩⟩
  ·obtain rfl : k = n := by omega
   obtain rfl : P = k := by omega
   have ha : l.any badE = false := by rw [any_idx, hP.out, HN.out]; simp
   have HA : Hid (addC l = 0 ∧ addR j l = addA j (l.map toE)) := ⟨by unfold addC; rw [ha]; rfl, by unfold addR; rw [ha]; rfl⟩
   have HG : Hid (∀ y ∈ l, 0 ≤ y.1 ∧ y.1 < 8) := fun y hy => badE_no (by
    rw [List.any_eq_false] at ha
    simpa using ha y hy)
   clear ha
   generalize P = n at *
   go_wp2_with fail
   go_loopw [29] (fun i wr => ∃ k : Nat, i = .int .i64 (k : Int) ∧ k ≤ n ∧ Hid (Fst w wr f v (addA j ((l.take k).map toE)))) (fun i _ => n - (intOf i).toNat)
   case atStart => exact ⟨0, rfl, by omega, Hid.mk ⟨⟨_, HF.out, New.refl _ _⟩, Kept.refl _ _⟩⟩
   case round =>
    obtain ⟨k, rfl, hk3, H⟩ := hrel
    by_cases hlt3 : k < n
    ·obtain ⟨y, hy⟩ : ∃ y, l[k]? = some y := ⟨_, List.getElem?_eq_getElem (by have := HN.out; omega)⟩
     obtain ⟨b, o, rfl, d0, d1⟩ := rowE_at (HR.out wr H.out.2) hy
     obtain ⟨y0, y8⟩ := HG.out y (List.mem_of_getElem? hy)
     have hjI : (k : Int) < (n : Int) := by omega
     obtain ⟨⟨u, hFu, hnu⟩, kk⟩ := H.out
     obtain ⟨hJr, hJ16⟩ := addA_reg hr h16 (l := (l.take k).map toE) (fun e he => by
      obtain ⟨z, hz, rfl⟩ := List.mem_map.1 he
      have := HG.out z (List.mem_of_mem_take hz)
      show z.1.toNat ≤ 7
      omega)
     have hJv : (addA j ((l.take k).map toE)).ver = j.ver + k := by
      rw [ver_addA, List.length_map, List.length_take]
      have := HN.out
      omega
     have hJe : addA j ((l.take (k + 1)).map toE) = addE (addA j ((l.take k).map toE)) (toE y) := by
      rw [List.take_add_one, hy, List.map_append, addA_append]
      rfl
     have HJE := Hid.mk hJe
     clear hJe
     generalize addA j ((l.take k).map toE) = J at *
     have hJb : J.ver + 1 < 18446744073709551616 := by omega
     clear hJv
     obtain ⟨a', c', rfl, q1, q2⟩ := hFu.form
     generalize hm : J.ev.length = m at *
     have HD : IsF_J wr.drew f (.slice a' m c') J := hFu.kept0 (Kept.refl [] wr).drew
     obtain ⟨ad, c2, W2, hrun, e8, fz8, hF2, hn2, k2⟩ := ref_lay HD hm (by omega) (toE y)
     have S0 := HD.ev
     clear H HD hy
     have yr : ((toE y).r : Int) = y.1 := Int.toNat_of_nonneg y0
     have yv : (toE y).v = y.2 := rfl
     rw [yr, yv] at hrun
     have hrun' : (Builtin.append_ #[27, 27] 27 #[.slice a' m c', .slice (some ⟨wr.heap.size, 0, none⟩) 1 1]).run Tryz.prog (wr.alloc (.cells #[Iv y.1, Iv y.2] 93)).drew = .ok (.slice ad (m + 1) c2) W2 := hrun
     have S1 : (wr.alloc (.cells #[Iv y.1, Iv y.2] 93)).drew.cell? ⟨f, 8, none⟩ = some (.slice a' m c') := (((Kept.refl [] wr).alloc (.cells #[Iv y.1, Iv y.2] 93)).drew).cell_eq hFu.ev
     have d0' : wr.drew.cell? ⟨b, o + k * 2, none⟩ = some (Iv y.1) := d0
     have d1' : wr.drew.cell? ⟨b, o + k * 2 + 1, none⟩ = some (Iv y.2) := d1
     go_wp2_with fail
     go_region_law ((refine step_append_run 27 (.tmp 36) (.tmp 41) (by rfl) (by rfl) _ _ (by rfl) (by rfl) hrun' ?_))
     all_goals
      clear hrun hrun' S0 S1 d0 d1 d0' d1' e8 fz8
      generalize W2.setCell ⟨f, 8, none⟩ (.slice ad (m + 1) c2) = W3 at *
      have c9 := hF2.ver
      have f9 := hF2.free 9
      have hF4 := hF2.setv (J.ver + 1)
      have ev : Uv (J.ver + 1) = .int .u64 ((J.ver : Int) + 1) := congrArg (Value.int .u64) (by omega : ((J.ver + 1 : Nat) : Int) = (J.ver : Int) + 1)
      rw [ev] at hF4
      dsimp only at c9 hF4
      have hw9 : IntKind.u64.wrap ((J.ver : Int) + 1) = (J.ver : Int) + 1 := by rw [IntKind.wrap_u64]; omega
      have k4 : Kept (foot f (.slice a' m c')) wr (W3.setCell ⟨f, 9, none⟩ (.int .u64 ((J.ver : Int) + 1))) := ((Kept.refl [] wr).drew.mono (by simp)).trans (k2.setCell (p := ⟨f, 9, none⟩) (.inl (mem_foot.2 (.inl rfl))) _) (fun x hx => .inl hx)
      have hn4 : New wr (.slice a' m c') (.slice ad (m + 1) c2) := hn2
      have e8 := hF4.ev
      have hjv' : J.ver = J.ver := rfl
      by_cases hm16 : m = 16
      ·have hmI : (16 : Int) < (m : Int) + 1 := by omega
       obtain ⟨x, t, hxt⟩ : ∃ x t, J.ev ++ [toE y] = x :: t := by
        cases hx : J.ev with
        | nil => exact ⟨_, _, rfl⟩
        | cons x t => exact ⟨x, t ++ [toE y], rfl⟩
       have hxm : x ∈ J.ev ++ [toE y] := by rw [hxt]; simp
       have hx7 : x.r ≤ 7 := by
        rcases List.mem_append.1 hxm with h | h
        ·exact hJr x h
        ·simp at h
         subst h
         show y.1.toNat ≤ 7
         omega
       have htl : t.length = m := by
        have := congrArg List.length hxt
        rw [List.length_append, hm] at this
        simpa using this.symm
       have hAE : addE J (toE y) = ⟨doE J.base x, t, J.ver + 1⟩ := by
        unfold addE
        rw [if_pos (by omega)]
        unfold dropJ
        dsimp only
        rw [hxt]
       rw [hxt] at hF4
       have HD := Hid.mk (drop29 hF4 hx7 (by omega))
       have HT : Hid (∀ w', (∃ u, IsF_J w' f u ⟨doE J.base x, t, J.ver + 1⟩ ∧ Fresh (W3.setCell ⟨f, 9, none⟩ (.int .u64 ((J.ver : Int) + 1))) u) → Kept [f] (W3.setCell ⟨f, 9, none⟩ (.int .u64 ((J.ver : Int) + 1))) w' → Fst w w' f v (addA j ((l.take (k + 1)).map toE))) := fun w' hu hk' => by
        obtain ⟨u', hu1, hu2⟩ := hu
        rw [HJE.out, hAE]
        refine Fst.step kk hnu hu1 (fun g hg => .inr (by have := hu2 g hg; have := k4.size; omega)) (k4.trans hk' (fun z hz => .inl (mem_foot.2 (.inl (by simpa using hz)))))
       clear hF2 hF4 k2 hn2 k4 hn4 hxt hxm htl hAE hFu kk hnu ev
       go_wp2_with fail
       refine HD.out.mono ?_
       rintro e w5 ⟨rfl, hu5, k5⟩
       have HR5 := Hid.mk (HT.out w5 hu5 k5)
       clear hu5 k5 HT HD e8 c9 f9
       go_wp2_with fail
       go_roundw
       case rel => exact ⟨k + 1, by go_num, by omega, HR5⟩
       case measure => simp [intOf]; omega
      ·have hmI : ¬ (16 : Int) < (m : Int) + 1 := by omega
       have hAE : addE J (toE y) = ⟨J.base, J.ev ++ [toE y], J.ver + 1⟩ := by
        unfold addE
        rw [if_neg (by omega)]
       have HR5 : Hid (Fst w (W3.setCell ⟨f, 9, none⟩ (.int .u64 ((J.ver : Int) + 1))) f v (addA j ((l.take (k + 1)).map toE))) := by
        rw [HJE.out, hAE]
        exact Fst.step kk hnu hF4 hn4 k4
       clear hF2 hF4 k2 hn2 k4 hn4 hAE hFu kk hnu ev
       go_wp2_with fail
       go_roundw
       case rel => exact ⟨k + 1, by go_num, by omega, HR5⟩
       case measure => simp [intOf]; omega
    ·obtain rfl : k = n := by omega
     have HR5 : Hid (Fst w wr f v (addA j (l.map toE))) := by
      have := H.out
      rwa [List.take_of_length_le (by rw [HN.out]; exact Nat.le_refl _)] at this
     clear H
     go_wp2_with fail
     go_ret
     exact ⟨by rw [HA.out.1]; rfl, by rw [HA.out.2]; exact HR5.out⟩
end
end Go.Proofs.YtngnenbidpojeaaGreatDoor
