import Derived.Test.YthlemapneangeaaV13
/-
  play: calls on both outboxes.
-/
namespace Go.Proofs.Ythlemapneangeaa
set_option maxRecDepth 100000
open Go.RowKit
set_option linter.unusedVariables false
section
variable {w0 w w' : World} {p pf : Nat} {o : Ob} {B : Nat}
set_option maxHeartbeats 4000000 in
theorem play13 {a : Option Addr} {n c : Nat} {l : List Pq} (T : Two w0 w p pf o B) (k0 : Kept [] w0 w) (hr : OpsIn w0 (.slice a n c) l) (hf : FewO l) (hB : B ≤ 1000000) :
    Calls Try.prog 13 #[.pointer (some ⟨p, 0, none⟩), .pointer (some ⟨pf, 0, none⟩), .slice a n c] w fun e w' => e = .returned (.bool true) ∧ (∃ o', Two w0 w' p pf o' (B + 301)) ∧ Kept [] w0 w' := by
  obtain ⟨hn, hc1, hc2⟩ := hr.1.bound
  have HN := Hid.mk hn
  have HR := Hid.mk hr
  have HF := Hid.mk hf
  have h301 : n ≤ 301 := by have := hf.1; omega
  have HT := Hid.mk T
  have HK0 := Hid.mk k0
  clear hr hf T k0 hn
  go_enter Try.func13, Try.ntmps13
  go_wp2_with fail
  go_loopw [19] (fun i wr => ∃ j : Nat, i = .int .i64 (j : Int) ∧ j ≤ n ∧ Hid (∃ o, Two w0 wr p pf o (B + j)) ∧ Hid (Kept [] w0 wr)) (fun i _ => n - (intOf i).toNat)
  case atStart => exact ⟨0, rfl, by omega, Hid.mk ⟨o, HT.out⟩, Hid.mk HK0.out⟩
  case round =>
    obtain ⟨j, rfl, hj, ht, kk⟩ := hrel
    by_cases hlt : j < n
    · obtain ⟨q, hq⟩ : ∃ q, l[j]? = some q := ⟨_, List.getElem?_eq_getElem (by have := HN.out; omega)⟩
      have hqm := List.mem_of_getElem? hq
      obtain ⟨hx, hI, hJ⟩ := HR.out.2 q hqm
      obtain ⟨hto, hal⟩ := HF.out.2 q hqm
      obtain ⟨b, o1, rfl, d0, d1, d2, d3⟩ := (HR.out.1.kept kk.out (by simp)).at hq
      obtain ⟨kind, to, nn, args, ad, cap⟩ := q
      dsimp only at d0 d1 d2 d3 hx hI hJ hto hal
      have d3 : wr.cell? ⟨b, o1 + j * 4 + 3, none⟩ = some (.slice ad args.length cap) := d3
      clear hq hqm
      have HX := Hid.mk hx
      have HI := Hid.mk hI
      have HJ := Hid.mk hJ
      clear hx hI hJ
      have hjI : (j : Int) < (n : Int) := by omega
      have hj0 : (0 : Int) ≤ (j : Int) := by omega
      have hkind : kind = 1 ∨ kind = 2 ∨ ((kind == 1) = false ∧ (kind == 2) = false) := by
        by_cases h1 : kind = 1
        · exact .inl h1
        · by_cases h2 : kind = 2
          · exact .inr (.inl h2)
          · exact .inr (.inr ⟨by simpa using h1, by simpa using h2⟩)
      obtain ⟨W1, e1, k1, hz1, hb1⟩ := box1 wr (.cells #[.int .i64 kind, Sv to, .int .i64 nn, .slice ad args.length cap] 68)
      have E1 := Hid.mk e1
      clear e1
      obtain ⟨oo, TT⟩ := ht.out
      have T1 := Hid.mk (TT.kept0 k1)
      have K1 := Hid.mk (kk.out.trans k1 (by simp))
      clear ht kk TT k1 hz1
      rcases hkind with rfl | rfl | ⟨hk1, hk2⟩
      case' inl =>
        go_wp2_with fail
        rw [E1.out]
        refine (two_send T1.out K1.out to nn args ad cap HX.out hto hal HI.out HJ.out (by omega)).mono ?_
        rintro e w2 ⟨s, er, o2, rfl, t2, H29⟩
        have hb2 := t2.box hb1 (by decide)
        obtain ⟨x0, x1, x2, x3⟩ := cells4 hb2
        have H29' := Hid.mk (H29 _ (Kept.refl [] _))
        have K2 := t2.kept0 K1.out
        clear H29 t2
        go_wp2_with fail
        refine H29'.out.mono ?_
        rintro e W ⟨rfl, t3, T3⟩
        have hbW := t3.box hb2 (by decide)
        have KW := Hid.mk (t3.kept0 K2)
        have TW : Hid (∃ o, Two w0 W p pf o (B + (j + 1))) := ⟨o2, by have := T3; rwa [Nat.add_assoc] at this⟩
        clear x0 x1 x2 x3 H29' K2 t3 T3 hb2 T1 K1 hb1 E1
        go_wp2_with fail
      case' inr.inl =>
        go_wp2_with fail
        rw [E1.out]
        refine (two_pop T1.out K1.out).mono ?_
        rintro e w2 ⟨t1, x, bo, a1, c1, o2, rfl, hO1, hl1, t2, H30⟩
        have hb2 := t2.box hb1 (by decide)
        have K2 := t2.kept0 K1.out
        go_wp2_with fail
        obtain ⟨V2, e2, k2, hz2, hb48⟩ := box1 w2 (.cells #[Sv t1, Sv x.fr, .int .u64 (x.ser : Int), .int .i64 x.kind, .slice a1 x.args.length c1] 48)
        rw [e2]
        clear e2
        refine (H30 _ k2).mono ?_
        rintro e w3 ⟨a2, c2, rfl, hO2, t3, T3⟩
        have hb3 := t3.box (k2.keeps hb2 (by simp)) (by decide)
        have h483 := t3.box hb48 (by decide)
        have hO13 := t3.ownsJ (hO1.kept k2 (by simp))
        have K3 := t3.kept0 (K2.trans k2 (by simp))
        clear H30 t2 t3 hb48 hb2 hO1 K2 k2 hz2
        go_wp2_with fail
        obtain ⟨V3, e3, k3, hz3, h75⟩ := box1 w3 (.cells #[Sv t1, Sv x.fr, .int .u64 (x.ser : Int), .int .i64 x.kind, .slice a2 x.args.length c2] 75)
        rw [e3]
        clear e3
        have kd : Kept [] w3 V3.drew := k3.drew
        have h75d : V3.drew.heap[w3.heap.size]? = some (.cells #[Sv t1, Sv x.fr, .int .u64 (x.ser : Int), .int .i64 x.kind, .slice a2 x.args.length c2] 75 (0, 0)) := h75
        have h48d := kd.keeps h483 (by simp)
        have HS : Hid (∀ V, Kept [] V3.drew V → ((V.cell? ⟨w2.heap.size, 0, none⟩ = some (Sv t1) ∧ V.cell? ⟨w2.heap.size, 1, none⟩ = some (Sv x.fr) ∧ V.cell? ⟨w2.heap.size, 2, none⟩ = some (.int .u64 (x.ser : Int)) ∧ V.cell? ⟨w2.heap.size, 3, none⟩ = some (.int .i64 x.kind) ∧ V.cell? ⟨w2.heap.size, 4, none⟩ = some (.slice a1 x.args.length c1)) ∧ (V.cell? ⟨w3.heap.size, 0, none⟩ = some (Sv t1) ∧ V.cell? ⟨w3.heap.size, 1, none⟩ = some (Sv x.fr) ∧ V.cell? ⟨w3.heap.size, 2, none⟩ = some (.int .u64 (x.ser : Int)) ∧ V.cell? ⟨w3.heap.size, 3, none⟩ = some (.int .i64 x.kind) ∧ V.cell? ⟨w3.heap.size, 4, none⟩ = some (.slice a2 x.args.length c2)))) := fun V k => ⟨cells5 (k.keeps h48d (by simp)), cells5 (k.keeps h75d (by simp))⟩
        have S0 := HS.out _ (Kept.refl [] _)
        have H31 : ∀ V bb dd, Kept [] V3.drew V → V.heap[bb]? = some (.cells #[Sv t1, Sv x.fr, .int .u64 (x.ser : Int), .int .i64 x.kind, .slice a1 x.args.length c1] 75 (0, 0)) → V.heap[dd]? = some (.cells #[Sv t1, Sv x.fr, .int .u64 (x.ser : Int), .int .i64 x.kind, .slice a2 x.args.length c2] 75 (0, 0)) → Calls Try.prog 31 #[.slice (some ⟨bb, 0, none⟩) 1 1, .slice (some ⟨dd, 0, none⟩) 1 1] V fun e w' => e = .returned (.bool true) ∧ Kept [] V w' := fun V bb dd k hb hd => sameOuts31 t1 x a1 a2 c1 c2 hb hd ((hO13.kept (kd.trans k (by simp)) (by simp)).reads) ((hO2.kept (kd.trans k (by simp)) (by simp)).reads) hl1
        have H31a : Hid (∀ V, Kept [] V3.drew V → Calls Try.prog 31 #[.slice (some ⟨V.heap.size, 0, none⟩) 1 1, .slice (some ⟨V.heap.size + 1, 0, none⟩) 1 1] ((V.alloc (.cells #[Sv t1, Sv x.fr, .int .u64 (x.ser : Int), .int .i64 x.kind, .slice a1 x.args.length c1] 75)).alloc (.cells #[Sv t1, Sv x.fr, .int .u64 (x.ser : Int), .int .i64 x.kind, .slice a2 x.args.length c2] 75)) fun e w' => e = .returned (.bool true) ∧ Kept [] V3.drew w') := fun V k => by
          obtain ⟨V', rfl, k', -, g1, g2⟩ := box2 V (.cells #[Sv t1, Sv x.fr, .int .u64 (x.ser : Int), .int .i64 x.kind, .slice a1 x.args.length c1] 75) (.cells #[Sv t1, Sv x.fr, .int .u64 (x.ser : Int), .int .i64 x.kind, .slice a2 x.args.length c2] 75)
          have kk := k.trans k' (by simp)
          exact (H31 _ _ _ kk g1 g2).mono fun e w' h => ⟨h.1, kk.trans h.2 (by simp)⟩
        have H31b : Hid (∀ V, Kept [] V3.drew V → Calls Try.prog 31 #[.slice (some ⟨V.heap.size + 1, 0, none⟩) 1 1, .slice (some ⟨V.heap.size, 0, none⟩) 1 1] ((V.alloc (.cells #[Sv t1, Sv x.fr, .int .u64 (x.ser : Int), .int .i64 x.kind, .slice a2 x.args.length c2] 75)).alloc (.cells #[Sv t1, Sv x.fr, .int .u64 (x.ser : Int), .int .i64 x.kind, .slice a1 x.args.length c1] 75)) fun e w' => e = .returned (.bool true) ∧ Kept [] V3.drew w') := fun V k => by
          obtain ⟨V', rfl, k', -, g1, g2⟩ := box2 V (.cells #[Sv t1, Sv x.fr, .int .u64 (x.ser : Int), .int .i64 x.kind, .slice a2 x.args.length c2] 75) (.cells #[Sv t1, Sv x.fr, .int .u64 (x.ser : Int), .int .i64 x.kind, .slice a1 x.args.length c1] 75)
          have kk := k.trans k' (by simp)
          exact (H31 _ _ _ kk g2 g1).mono fun e w' h => ⟨h.1, kk.trans h.2 (by simp)⟩
        have H31c : Hid (∀ V, Kept [] (V3.alloc (.cells #[Sv t1, Sv x.fr, .int .u64 (x.ser : Int), .int .i64 x.kind, .slice a2 x.args.length c2] 75)).drew V → Calls Try.prog 31 #[.slice (some ⟨V.heap.size, 0, none⟩) 1 1, .slice (some ⟨V3.heap.size, 0, none⟩) 1 1] (V.alloc (.cells #[Sv t1, Sv x.fr, .int .u64 (x.ser : Int), .int .i64 x.kind, .slice a1 x.args.length c1] 75)) fun e w' => e = .returned (.bool true) ∧ Kept [] V3.drew w') := fun V k => by
          have kk0 : Kept [] V3.drew (V3.alloc (.cells #[Sv t1, Sv x.fr, .int .u64 (x.ser : Int), .int .i64 x.kind, .slice a2 x.args.length c2] 75)).drew := ((Kept.refl [] V3.drew).alloc (.cells #[Sv t1, Sv x.fr, .int .u64 (x.ser : Int), .int .i64 x.kind, .slice a2 x.args.length c2] 75))
          have kk := (kk0.trans k (by simp)).alloc (.cells #[Sv t1, Sv x.fr, .int .u64 (x.ser : Int), .int .i64 x.kind, .slice a1 x.args.length c1] 75)
          have g2 := (k.alloc (.cells #[Sv t1, Sv x.fr, .int .u64 (x.ser : Int), .int .i64 x.kind, .slice a1 x.args.length c1] 75)).keeps (w := (V3.alloc (.cells #[Sv t1, Sv x.fr, .int .u64 (x.ser : Int), .int .i64 x.kind, .slice a2 x.args.length c2] 75)).drew) (heap_alloc_new V3 (.cells #[Sv t1, Sv x.fr, .int .u64 (x.ser : Int), .int .i64 x.kind, .slice a2 x.args.length c2] 75)) (by simp)
          exact (H31 _ _ _ kk (heap_alloc_new V _) g2).mono fun e w' h => ⟨h.1, kk.trans h.2 (by simp)⟩
        have H32 : Hid (∀ V, Calls Try.prog 32 #[Yv t1 x a1 c1] V fun e w' => e = .returned (Yv t1 x a1 c1) ∧ Kept [] V w') := fun V => out32 t1 x a1 c1
        have HB68 : Hid (∀ V, Kept [] V3.drew V → V.heap[wr.heap.size]? = _) := fun V k => (kd.trans k (by simp)).keeps hb3 (by simp)
        have T3' : Hid (∀ V, Kept [] V3.drew V → Two w0 V p pf o2 (B + j)) := fun V k => T3.kept0 (kd.trans k (by simp))
        have K3' : Hid (∀ V, Kept [] V3.drew V → Kept [] w0 V) := fun V k => K3.trans (kd.trans k (by simp)) (by simp)
        clear H31 h75d h48d kd k3 hz3 h75 h483 hO13 hO2 hb3 T3 K3 hb1 E1 T1 K1
        go_region_held3 (fun V => ((V.cell? ⟨w2.heap.size, 0, none⟩ = some (Sv t1) ∧ V.cell? ⟨w2.heap.size, 1, none⟩ = some (Sv x.fr) ∧ V.cell? ⟨w2.heap.size, 2, none⟩ = some (.int .u64 (x.ser : Int)) ∧ V.cell? ⟨w2.heap.size, 3, none⟩ = some (.int .i64 x.kind) ∧ V.cell? ⟨w2.heap.size, 4, none⟩ = some (.slice a1 x.args.length c1)) ∧ (V.cell? ⟨w3.heap.size, 0, none⟩ = some (Sv t1) ∧ V.cell? ⟨w3.heap.size, 1, none⟩ = some (Sv x.fr) ∧ V.cell? ⟨w3.heap.size, 2, none⟩ = some (.int .u64 (x.ser : Int)) ∧ V.cell? ⟨w3.heap.size, 3, none⟩ = some (.int .i64 x.kind) ∧ V.cell? ⟨w3.heap.size, 4, none⟩ = some (.slice a2 x.args.length c2)))) (first | with_reducible exact S0 | with_reducible exact S2 | with_reducible exact SW | with_reducible exact HS.out _ ((Kept.refl [] _).alloc _) | with_reducible exact HS.out _ (kk2.alloc _) | with_reducible exact HS.out _ ((kk2.alloc _).alloc _)) (first | (go_at_call 31; (first | with_reducible refine (H31a.out _ kk2).mono ?_ | with_reducible refine (H31b.out _ kk2).mono ?_ | with_reducible refine (H31c.out _ kq2).mono ?_); rintro e W ⟨rfl, kW⟩; have SW := HS.out _ kW) | (go_at_call 32; refine (H32.out _).mono ?_; rintro e U2 ⟨rfl, kq2⟩; have kk2 : Kept [] V3.drew U2 := (by first | with_reducible exact kq2 | exact ((Kept.refl [] _).alloc _).trans kq2 (by simp)); have S2 := HS.out _ kk2))
        all_goals
          have hbW := HB68.out _ kW
          have KW := Hid.mk (K3'.out _ kW)
          have TW : Hid (∃ o, Two w0 W p pf o (B + (j + 1))) := ⟨o2, (T3'.out _ kW).mono (by omega)⟩
          clear HB68 K3' T3' H31a H31b H31c H32 SW S2 S0 HS kk2 kq2 kW
          go_wp2_with fail
      case' inr.inr =>
        go_wp2_with fail
        rw [E1.out]
        generalize W1 = W at *
        have hbW := hb1
        have KW := K1
        have TW : Hid (∃ o, Two w0 W p pf o (B + (j + 1))) := ⟨oo, T1.out.mono (by omega)⟩
        clear T1 K1 hb1 E1
      all_goals
        obtain ⟨oW, TWo⟩ := TW.out
        have Td := TWo.kept0 (Kept.refl [] W).drew
        have hcz := (cells4 (w := W.drew) hbW).2.1
        have HS : Hid (∀ V, Kept [] W.drew V → V.cell? ⟨wr.heap.size, 1, none⟩ = some (Sv to)) := fun V k => k.cell_eq hcz
        have S0 := HS.out _ (Kept.refl [] _)
        have H18 := Hid.mk (two_same Td)
        have H22 : Hid (∀ V, Kept [] W.drew V → Calls Try.prog 22 #[.pointer (some ⟨p, 0, none⟩), Sv to] V fun e w' => e = .returned (Uv (ser oW.K to)) ∧ Kept [] V w') := fun V k => two_ser22 (Td.kept0 k) to
        have H33 : Hid (∀ V, Kept [] W.drew V → Calls Try.prog 33 #[.pointer (some ⟨pf, 0, none⟩), Sv to] V fun e w' => e = .returned (Uv (ser oW.K to)) ∧ Kept [] V w') := fun V k => two_ser33 (Td.kept0 k) to
        generalize ser oW.K to = sv at H22 H33
        clear hcz Td TWo
        go_region_held3 (fun V => V.cell? ⟨wr.heap.size, 1, none⟩ = some (Sv to)) (first | with_reducible exact S0 | with_reducible exact S1 | with_reducible exact S2 | with_reducible exact S3) (first | (go_at_call 33; refine (H33.out _ kV2).mono ?_; rintro e V3 ⟨rfl, k3⟩; have kV3 := kV2.trans k3 (by simp); have S3 := HS.out _ kV3) | (go_at_call 22; refine (H22.out _ kV1).mono ?_; rintro e V2 ⟨rfl, k2⟩; have kV2 := kV1.trans k2 (by simp); have S2 := HS.out _ kV2) | (go_at_call 18; refine H18.out.mono ?_; rintro e V1 ⟨rfl, kV1⟩; have S1 := HS.out _ kV1))
        have kVW : Kept [] W V3 := (Kept.refl [] W).drew.trans kV3 (by simp)
        clear S0 S1 S2 S3 HS H18 H22 H33 kV1 kV2 kV3 k2 k3
        go_wp2_with fail
        go_roundw
        case rel =>
          refine ⟨j + 1, by go_num, by omega, Hid.mk ?_, Hid.mk (KW.out.trans kVW (by simp))⟩
          obtain ⟨oW, TWo⟩ := TW.out
          exact ⟨oW, TWo.kept0 kVW⟩
        case measure => simp [intOf]; omega
    · obtain rfl : j = n := by omega
      go_wp2_with fail
      go_ret
      obtain ⟨oo, TT⟩ := ht.out
      exact ⟨rfl, ⟨oo, TT.mono (by omega)⟩, kk.out⟩
end
end Go.Proofs.Ythlemapneangeaa
