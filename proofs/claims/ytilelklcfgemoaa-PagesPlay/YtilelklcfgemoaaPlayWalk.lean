/-
  PagesPlay answers true.
-/
import Derived.Test.YtilelklcfgemoaaCu
namespace Go.Proofs.Ytilelklcfgemoaa
open Go.RowKit
set_option linter.unusedVariables false

theorem ownsK_empty (w : World) : OwnsK (w.alloc (.cells #[] 42)) (.slice (some ⟨w.heap.size, 0, none⟩) 0 0) [] :=
  ⟨rfl, .inr ⟨w.heap.size, 0, #[], rfl, Nat.zero_le _, heap_alloc_new w _, Nat.le_refl _, by unfold maxLen; omega, rfl, rfl⟩⟩
theorem split_at {L : List Ent} {i : Nat} {x : Ent} (h : L[i]? = some x) : L = L.take i ++ x :: L.drop (i + 1) := by
  obtain ⟨h1, h2⟩ := List.getElem?_eq_some_iff.1 h
  rw [← h2, ← List.drop_eq_getElem_cons h1, List.take_append_drop]
theorem Calm.later {s : St} {m n : Nat} (h : Calm s m) (hn : m ≤ n) : Calm s n := ⟨h.1, h.2.1, Nat.le_trans h.2.2 hn⟩
set_option maxRecDepth 100000 in
set_option maxHeartbeats 1000000 in
theorem play_long (w : World) (a b : Int) (v : Value) (ls : List OpL) (hv : HoldsO w v ls) (hn : 60 < ls.length) : Calls Try.prog 3 #[.int .u8 a, .int .u8 b, v] w fun e w' => e = .returned (.bool true) ∧ Kept [] w w' := by
  obtain ⟨a1, c1, rfl, hc1, hm1, -⟩ := hv
  have t1 : (60 : Int) < (ls.length : Int) := by omega
  clear hm1
  go_enter Try.func3, Try.ntmps3
  go_wp2_with fail
  refine (awake_any w).mono ?_
  rintro e w0 ⟨rfl, k0⟩
  go_wp2_with fail
  refine (awake_any w0).mono ?_
  rintro e w2 ⟨rfl, k2⟩
  have hK := k0.trans k2 (by simp)
  clear k0 k2
  go_wp2
  go_ret
  exact ⟨rfl, hK⟩
set_option maxRecDepth 100000 in
set_option maxHeartbeats 1000000 in
theorem play_zero (w : World) (fr : Nat) (hfr : fr ≤ 255) (v : Value) (ls : List OpL) (hv : HoldsO w v ls) (hn : ls.length ≤ 60) : Calls Try.prog 3 #[.int .u8 0, .int .u8 (fr : Int), v] w fun e w' => e = .returned (.bool true) ∧ Kept [] w w' := by
  obtain ⟨a1, c1, rfl, hc1, hm1, -⟩ := hv
  have t1 : ¬ (60 : Int) < (ls.length : Int) := by omega
  clear hm1
  go_enter Try.func3, Try.ntmps3
  go_wp2_with fail
  refine (awake_any w).mono ?_
  rintro e w0 ⟨rfl, k0⟩
  have hnew := new_nb fr (by omega) w0
  go_wp2_with fail
  refine hnew.mono ?_
  rintro e w1 ⟨q, rfl, F, -, k1, -⟩
  have hK := k0.trans k1 (by simp)
  clear hnew k0 k1
  go_wp2_with fail
  refine (open_zero (some ⟨q, 0, none⟩) fr _ w1).mono ?_
  rintro e w2 ⟨rfl, rfl⟩
  go_wp2
  go_ret
  exact ⟨rfl, hK⟩
set_option maxRecDepth 100000 in
set_option maxHeartbeats 8000000 in
theorem play_walk (w : World) (ct fr : Nat) (hct : ct ≤ 255) (hc1 : 1 ≤ ct) (hfr : fr ≤ 255) (v : Value) (ls : List OpL) (hv : HoldsO w v ls) (hn60 : ls.length ≤ 60) : Calls Try.prog 3 #[.int .u8 (ct : Int), .int .u8 (fr : Int), v] w fun e w' => e = .returned (.bool true) ∧ Kept [] w w' := by
  have HV := Hid.mk hv
  obtain ⟨al, cl, rfl, hcl1, hcl2, -⟩ := hv
  have hcl2' : cl ≤ 9223372036854775807 := hcl2
  obtain ⟨N0, hn⟩ : ∃ n, Hid (ls.length = n) := ⟨_, rfl⟩
  rw [hn.out] at hcl1 hn60 ⊢
  clear hcl2
  have t1 : ¬ (60 : Int) < (N0 : Int) := by omega
  have t2 : ((ct : Int) == 0) = false := by simp; omega
  have hnew : Hid (∀ w0, Kept [] w w0 → Calls Try.prog 10 #[.int .i64 ((ct : Int) + (fr : Int))] w0 fun e w1 => ∃ q, e = .returned (.pointer (some ⟨q, 0, none⟩)) ∧ Kept [] w0 w1 ∧ ∀ w2, Kept [] w1 w2 → Calls Try.prog 11 #[.pointer (some ⟨q, 0, none⟩), .int .i64 (fr : Int), .int .i64 (ct : Int), .slice none 0 0] w2 fun e w' => ∃ p fl, e = .returned (.tuple #[.pointer (some ⟨p, 0, none⟩), .int .i64 0]) ∧ fl.length = ct ∧ Sy w w' q p ⟨ct + fr, [], -1, false⟩ fr ct [] fl [] ∧ Kept [] w2 w') := fun w0 k0 => by
    have := sy_new k0 (ct + fr) fr ct (by omega) hc1 (by omega)
    rw [Int.natCast_add] at this
    exact this
  go_enter Try.func3, Try.ntmps3
  go_wp2_with fail
  refine (awake_any w).mono ?_
  rintro e w0 ⟨rfl, k0⟩
  have hnw := hnew.out w0 k0
  clear hnew
  go_wp2_with fail
  refine hnw.mono ?_
  rintro e w1 ⟨q, rfl, k1, hop'⟩
  have hop := hop' w1 (Kept.refl _ _)
  clear hnw hop' k1 k0
  go_wp2_with fail
  refine hop.mono ?_
  rintro e w2 ⟨p, fl, rfl, -, hS, -⟩
  have hC : Calm ⟨ct + fr, [], -1, false⟩ (26 * 0) := ⟨rfl, rfl, by simp⟩
  clear hop
  go_wp2_with fail
  go_loopw [8, 9, 10, 56] (fun u8 u9 u10 i wr => ∃ (j p : Nat) (s : St) (L : List Ent) (fl : List Nat), i = .int .i64 (j : Int) ∧ j ≤ N0 ∧ u8 = .pointer (some ⟨p, 0, none⟩) ∧ u9 = .int .i64 0 ∧ Sy w wr q p s fr ct L fl u10.ownBlock.toList ∧ Calm s (26 * j) ∧ OwnsK wr u10 (kps L) ∧ (∀ g, u10.ownBlock = some g → w.heap.size ≤ g)) (fun _ _ _ i _ => N0 - (numOf i).toNat)
  case atStart => exact ⟨0, p, _, [], fl, rfl, Nat.zero_le _, rfl, rfl, hS, hC, OwnsK.nil _, by simp [Value.ownBlock]⟩
  case round =>
    clear hS hC
    obtain ⟨j, p, s, L, fl, rfl, hj, rfl, rfl, hS, hC, hO, hFr⟩ := hrel
    obtain ⟨a10, c10, rfl, hc101, hc102⟩ := hO.form
    have hkl := kps_length L
    rw [hkl] at hO hS hFr hc101 ⊢
    have hLct : L.length ≤ 255 := by have := hS.ok.few; omega
    obtain ⟨m, hm⟩ : ∃ m, Hid (L.length = m) := ⟨_, rfl⟩
    rw [hm.out] at hO hS hFr hc101 hkl hLct ⊢
    by_cases hjn : j < N0
    · have hlt : (j : Int) < (N0 : Int) := by omega
      obtain ⟨x, hx⟩ : ∃ x, ls[j]? = some x := ⟨ls[j]'(by have := hn.out; omega), by simp⟩
      obtain ⟨b, o, cap', ab, cb, hve, d0, d1, d2, hrx, hxo⟩ := HV.out.at j x hx hS.k
      rw [hn.out] at hve
      injection hve with e1 e2 e3
      subst e1 e3
      clear e2 hx
      have k1 : Kept [] wr (wr.alloc (.cells #[.int .i64 x.kind, .int .i64 x.n, .slice ab x.b.length cb] 33)) := (Kept.refl [] wr).alloc _
      have hb1 : Boxed3 (wr.alloc (.cells #[.int .i64 x.kind, .int .i64 x.n, .slice ab x.b.length cb] 33)) wr.heap.size (.int .i64 x.kind) (.int .i64 x.n) (.slice ab x.b.length cb) := heap_alloc_new wr _
      have htx := text_any x hxo ab cb (wr.alloc (.cells #[.int .i64 x.kind, .int .i64 x.n, .slice ab x.b.length cb] 33)) ((hrx.kept hS.k (by simp)).kept k1 (by simp))
      have hS1 := hS.more (Y := [wr.heap.size]) k1 (by simp)
      have hO1 := hO.kept k1 (by simp)
      have hOlt : ∀ y ∈ (Value.slice a10 m c10).ownBlock.toList, y < wr.heap.size := fun y hy => hO.lt (by simpa using hy)
      obtain ⟨b0, b1, b2⟩ := hb1.cells
      clear hrx hS hO
      go_wp2_with fail
      generalize wr.alloc (.cells #[.int .i64 x.kind, .int .i64 x.n, .slice ab x.b.length cb] 33) = w1 at k1 hb1 htx hS1 hO1 b0 b1 b2
      generalize wr.heap.size = bo at hb1 b0 b1 b2 hS1 hOlt
      refine htx.mono ?_
      rintro e w2 ⟨v2, rfl, hO2, k2, hF2⟩
      obtain ⟨a2, c2, rfl⟩ := hO2.form
      obtain ⟨T, hT⟩ : ∃ T, Hid ((textL x).length = T) := ⟨_, rfl⟩
      have hT6 : T ≤ 6000 := by have := textL_len x; have := hT.out; omega
      have hTk := bks_text hT6
      rw [hT.out] at hO2 hF2 ⊢
      have hS2 := hS1.more (Y := (Value.slice a2 T c2).ownBlock.toList) k2 (fun y hy => hF2 y (by simpa using hy))
      have hO10 := hO1.kept k2 (by simp)
      have hb2 := hb1.kept k2 (by simp)
      obtain ⟨X, hX⟩ : ∃ X, Hid ((Value.slice a2 T c2).ownBlock.toList ++ ([bo] ++ (Value.slice a10 m c10).ownBlock.toList) = X) := ⟨_, rfl⟩
      rw [hX.out] at hS2
      have hXt : ∀ g, (Value.slice a2 T c2).ownBlock = some g → g ∈ X := fun g hg => by rw [← hX.out]; simp only [List.mem_append, Option.mem_toList]; exact .inl hg
      have hXb : bo ∈ X := by rw [← hX.out]; simp
      have hXo : ∀ g, (Value.slice a10 m c10).ownBlock = some g → g ∈ X := fun g hg => by rw [← hX.out]; simp only [List.mem_append, Option.mem_toList]; exact .inr (.inr hg)
      have hXs : ∀ y ∈ (Value.slice a10 m c10).ownBlock.toList, y ∈ X := fun y hy => hXo y (by simpa using hy)
      have hXl : ∀ y ∈ X, y < w2.heap.size := fun y hy => by
        rw [← hX.out] at hy
        simp only [List.mem_append, Option.mem_toList, List.mem_singleton] at hy
        rcases hy with hy | hy | hy
        · exact hO2.lt hy
        · subst hy; exact lt_of_block hb2
        · exact hO10.lt hy
      have hr2 := hO2.reads
      have htb := tb_any T (by omega) w2
      obtain ⟨fl0, hfl0⟩ : ∃ n, Hid (fl.length = n) := ⟨_, rfl⟩
      have hfr2 := sy_free_len hS2 fl0 hfl0
      have hxn : Hid (-9223372036854775808 ≤ x.n ∧ x.n < 9223372036854775808) := ⟨hxo.1, hxo.2.1⟩
      obtain ⟨b0, b1, b2⟩ := hb2.cells
      obtain ⟨tx, htx⟩ : ∃ l, Hid (textL x = l) := ⟨_, rfl⟩
      rw [htx.out] at hr2
      have hTl : Hid (T = tx.length) := Hid.mk (by rw [← htx.out]; exact hT.out.symm)
      generalize x.kind = kd at b0 hb2
      generalize x.n = xn at b1 hxn hb2
      clear htx hO2 k2 hF2 hS1 hb1 k1 hxo d0 d1 d2 hO1 hOlt hT
      go_wp2_with fail
      refine htb.mono ?_
      rintro e w2' ⟨rfl, rfl⟩
      clear htb
      go_wp2_with fail
      refine hfr2.mono ?_
      rintro e w3 ⟨a3, c3, rfl, hS3, k3⟩
      have hO3 := hO10.kept k3 (by simp)
      have hr3 := hr2.kept k3 (by simp)
      have hXl3 : ∀ y ∈ X, y < w3.heap.size := fun y hy => Nat.lt_of_lt_of_le (hXl y hy) k3.size
      have hb3 := hb2.kept k3 (by simp)
      clear hfr2 hO10 hr2 hXl hb2 b0 b1 b2 hS2 k3
      obtain ⟨b0, b1, b2⟩ := hb3.cells
      by_cases hfit : bks T ≤ fl0
      · have tf : ¬ (fl0 : Int) < (bks T : Int) := by omega
        by_cases hk1 : kd = 1
        · subst hk1
          as_aux_lemma =>
            have hws := sy_writes hS3
            have hput := sy_put hS3 a2 T c2 tx hTl.out hr3 (fun g hg => .inl (hXt g hg)) hXl3 (by omega) (by rw [hfl0.out]; omega) hC.1 (.inl (by rw [hC.2.1]; omega)) (by have := hC.2.2; omega)
            go_wp2_with fail
            refine hws.mono ?_
            rintro e w3' ⟨rfl, rfl⟩
            clear hws
            go_wp2_with fail
            refine hput.mono ?_
            rintro e w4 ⟨nm, vs, fu, rfl, -, hvs, -, hfu, hS4, kx⟩
            have hCz := (hC.more vs fu hfu (k := 26) (by omega)).later (n := 26 * (j + 1)) (by omega)
            have hws4 := sy_writes hS4
            rw [show ({ s with ws := s.ws ++ vs, fuse := fu } : St).ws.length = s.ws.length + bks T by show (s.ws ++ vs).length = _; rw [List.length_append, hvs], Int.natCast_add] at hws4
            have hO4 := hO3.keptX kx hXo
            have hr4 := hr3.keptX kx hXt
            have hst := str34 _ _ _ hr4
            have hS4' := hS4.less hXs
            obtain ⟨ad, cd, w5, hrun, hO5, k5, hN5⟩ := append_kept hO4 (nm, tx) (by rw [hkl]; omega)
            rw [hkl] at hrun hO5 hN5
            have hS5 := hS4'.turn2 (Y := (Value.slice ad (m + 1) cd).ownBlock.toList) k5 (fun y hy => hy) (fun y hy => hFr y (by simpa using hy)) (fun y hy => by
              rw [Option.mem_toList] at hy
              rcases hN5 y hy with h | h
              · exact .inl (by rw [Option.mem_toList]; exact h)
              · exact .inr h)
            have hF5 : ∀ g, (Value.slice ad (m + 1) cd).ownBlock = some g → w.heap.size ≤ g := fun g hg => by
              rcases hN5 g hg with h | h
              · exact hFr g h
              · have := hS4.k.size; omega
            have e9 : kps (L ++ [(nm, fl.take (bks T), tx)]) = kps L ++ [(nm, tx)] := by simp [kps]
            rw [← e9] at hO5
            dsimp only at hrun
            generalize (⟨tx.toArray⟩ : ByteArray) = TB at hrun hst
            have hwl := hC.2.2
            have HS5 := Hid.mk hS5
            have HO5 := Hid.mk hO5
            have HC5 := Hid.mk hCz
            have HF5 := Hid.mk hF5
            generalize s.ws.length = WL at hws4 hwl ⊢
            clear hput hS4 hS4' kx hO4 hr4 k5 hN5 hS3 hO3 hC hCz hr3 hb3 hXl3 hFr hvs hfu e9 hS5 hO5 hF5 b0 b1 b2
            go_wp2_with fail
            refine hws4.mono ?_
            rintro e w4' ⟨rfl, rfl⟩
            clear hws4
            have hS5 := HS5.out
            have hO5 := HO5.out
            have hal := alike_any hS5 HC5.out.1 _ hO5.holds
            clear hS5 hO5
            go_wp2_with (at_builtin; refine wpList_append_run 30 _ _ rfl rfl _ _ rfl rfl _ _ hrun ?_)
            refine hal.mono ?_
            rintro e wT ⟨rfl, kT⟩
            have HST := Hid.mk (HS5.out.kept kT)
            have HOT := Hid.mk (HO5.out.kept kT (by simp))
            clear hal kT HS5 HO5 hrun hst
            go_wp2_with fail
            exact ⟨⟨j + 1, _, _, _, _, by go_num, by omega, rfl, rfl, HST.out, HC5.out, HOT.out, HF5.out⟩, by simp [numOf]; omega⟩
        · have q1 : (kd == 1) = false := by simpa using hk1
          clear hk1
          by_cases hk2 : kd = 2
          · subst hk2
            rcases Nat.eq_zero_or_pos m with hm0 | hm0
            · have u0 : ¬ (0 : Int) < (m : Int) := by omega
              clear hm0
              as_aux_lemma =>
                have hSz := hS3.less hXs
                have hCz := hC.later (n := 26 * (j + 1)) (by omega)
                have hal := alike_any hSz hCz.1 _ hO3.holds
                have HSz := Hid.mk hSz
                have HOz := Hid.mk hO3
                have HCz := Hid.mk hCz
                have HFz := Hid.mk hFr
                clear hSz hS3 hO3 hC hCz hFr hr3 hb3 hXl3
                go_wp2_with fail
                refine hal.mono ?_
                rintro e wT ⟨rfl, kT⟩
                have HST := Hid.mk (HSz.out.kept kT)
                have HOT := Hid.mk (HOz.out.kept kT (by simp))
                clear hal kT HSz HOz
                go_wp2_with fail
                exact ⟨⟨j + 1, _, _, _, _, by go_num, by omega, rfl, rfl, HST.out, HCz.out, HOT.out, HFz.out⟩, by simp [numOf]; omega⟩
            · have u0 : (0 : Int) < (m : Int) := by omega
              as_aux_lemma =>
                obtain ⟨ix, hix, hixe⟩ := idx_of xn m hm0 (by omega)
                obtain ⟨y, hy⟩ : ∃ y, L[ix]? = some y := ⟨L[ix]'(by have := hm.out; omega), by simp⟩
                have hkj : (kps L)[ix]? = some (y.1, y.2.2) := by simp [kps, hy]
                have hsp := split_at hy
                obtain ⟨g10, o10, c10', hve, hcn, -⟩ := hO3.holds.at ix _ hkj
                rw [hkl] at hve
                injection hve with e1 e2 e3
                subst e1 e3
                have tix : (ix : Int) < (m : Int) := by omega
                have hS3' := hS3
                rw [hsp] at hS3'
                have hyL : y ∈ L := List.mem_of_getElem? hy
                have hy6 : y.1 < 65536 := (hS3.ok.lies y hyL).small _ (hS3.ok.self hyL)
                have hno := hS3'.ok.names
                have hdr := sy_drop hS3' hXl3
                clear hS3 hS3' e2 hm0
                go_wp2_with fail
                refine hdr.mono ?_
                rintro e w4 ⟨rfl, hS4, kx⟩
                have hO4 := hO3.keptX kx hXo
                obtain ⟨g11, o11, c11, hve, hcn4, -⟩ := hO4.holds.at ix _ hkj
                rw [hkl] at hve
                injection hve with e1 e2 e3
                injection e1 with e1
                injection e1 with e1 e4 _
                subst e1 e4
                have hdn := sy_drop_none hS4 (y.1 : Int) (by simp [Lit.wf, IntKind.min, IntKind.max, IntKind.signed, IntKind.bits]; omega) (fun z hz he => by
                  have he' : z.1 = y.1 := by omega
                  rw [List.map_append, List.map_cons] at hno
                  rcases List.mem_append.1 hz with hz | hz
                  · exact (List.nodup_append.1 hno).2.2 z.1 (List.mem_map.2 ⟨z, hz, rfl⟩) y.1 (by simp) he'
                  · exact (List.nodup_cons.1 (List.nodup_append.1 hno).2.1).1 (he' ▸ List.mem_map.2 ⟨z, hz, rfl⟩))
                obtain ⟨asl, csl, hsl, hsT, -⟩ := sliceK_to (some ⟨g10, o10, none⟩) m c10 ix (kps L) w4 hkl.symm hO4.holds (by omega)
                obtain ⟨bsl, dsl, hfl, hfT⟩ := sliceK_from (some ⟨g10, o10, none⟩) m c10 (ix + 1) (kps L) w4 hkl.symm hO4.holds (by omega)
                rw [show ((ix + 1 : Nat) : Int) = (ix : Int) + 1 by omega] at hfl
                have kD := (Kept.refl [] w4).drew
                have hwi : IntKind.i64.wrap ((ix : Int) + 1) = (ix : Int) + 1 := by rw [IntKind.wrap_i64]; omega
                have S0 : True := trivial
                clear hdr hcn hno hO3 hr3 hb3 hsp e2 e3 hkj
                go_wp2_with fail
                refine hdn.mono ?_
                rintro e w4' ⟨rfl, rfl⟩
                clear hdn hcn4
                go_wp2_with fail
                refine wp_region_held_drew (S := fun w' => True) (by kernel_rfl) S0 (fun _ => ?_)
                generalize w4.drew = wD at kD ⊢
                refine wpAnyH_take (i := 1) (v := .slice (some ⟨g10, o10, none⟩) m c10) rfl (by kernel_rfl) (by kernel_rfl) (by kernel_rfl) (fun _ _ _ h => h) (Or.inl ⟨by rfl, fun w hS => by have hS' : True := hS; go_simp⟩) S0 ?_
                go_simp
                refine wpAnyH_take (i := 2) (v := .int .i64 (ix : Int)) rfl (by kernel_rfl) (by kernel_rfl) (by kernel_rfl) (fun _ _ _ h => h) (Or.inl ⟨by rfl, fun w hS => by have hS' : True := hS; go_simp⟩) S0 ?_
                go_simp
                refine wpAnyH_take (i := 3) (v := .slice asl ix csl) rfl (by kernel_rfl) (by kernel_rfl) (by kernel_rfl) (fun _ _ _ h => h) (Or.inl ⟨by rfl, fun w hS => by have hS' : True := hS; go_simp⟩) S0 ?_
                go_simp
                refine wpAnyH_take (i := 5) (v := .slice (some ⟨g10, o10, none⟩) m c10) rfl (by kernel_rfl) (by kernel_rfl) (by kernel_rfl) (fun _ _ _ h => h) (Or.inl ⟨by rfl, fun w hS => by have hS' : True := hS; go_simp⟩) S0 ?_
                go_simp
                refine wpAnyH_take (i := 6) (v := .int .i64 (ix : Int)) rfl (by kernel_rfl) (by kernel_rfl) (by kernel_rfl) (fun _ _ _ h => h) (Or.inl ⟨by rfl, fun w hS => by have hS' : True := hS; go_simp⟩) S0 ?_
                go_simp
                refine wpAnyH_take (i := 7) (v := .int .i64 ((ix : Int) + 1)) rfl (by kernel_rfl) (by kernel_rfl) (by kernel_rfl) (fun _ _ _ h => h) (Or.inl ⟨by rfl, fun w hS => by have hS' : True := hS; go_simp⟩) S0 ?_
                go_simp
                refine wpAnyH_take (i := 8) (v := .slice bsl (m - (ix + 1)) dsl) rfl (by kernel_rfl) (by kernel_rfl) (by kernel_rfl) (fun _ _ _ h => h) (Or.inl ⟨by rfl, fun w hS => by have hS' : True := hS; go_simp⟩) S0 ?_
                go_simp
                have hOD := hO4.kept kD (by simp)
                have hgD : g10 < wD.heap.size := hOD.lt rfl
                have kE := kept_alloc wD (.cells #[] 42)
                have hE := ownsK_empty wD
                refine wpAnyH_ready (rs := [0]) (by kernel_rfl) (by simp) (AllReadyH.cons rfl (fun K hK => ?_) <| AllReadyH.nil)
                go_simp
                refine hK.out _ _ trivial (fun _ => ?_)
                clear hK K
                go_simp
                generalize wD.alloc (.cells #[] 42) = wE at kE hE ⊢
                have hOE := hOD.kept kE (by simp)
                have hl1 : ([] : List Kp).length + ((kps L).take ix).length = ix := by rw [List.length_take, hkl]; simp; omega
                obtain ⟨ad, cd, wF, hrunA, hOA, hgA, hNA⟩ := run_appendK wE 30 _ [] hE _ _ (hsT wE hOE.holds) (by rw [hl1]; omega)
                rw [hl1] at hrunA hOA hNA
                rw [List.nil_append] at hOA
                have kA : Kept [wD.heap.size] wE wF := (Kept.refl _ wE).grown hgA (fun x hx => .inl (by simp [Value.ownBlock] at hx; simp [hx]))
                have hOF := hOE.kept kA (fun g hg => by simp [Value.ownBlock] at hg ⊢; omega)
                refine wpAnyH_ready (rs := [4]) (by kernel_rfl) (by simp) (AllReadyH.cons rfl (fun K hK => ?_) <| AllReadyH.nil)
                refine step_append_run 30 (.tmp 148) (.tmp 151) (by rfl) (by rfl) _ _ (by rfl) (by rfl) hrunA (hK.out _ _ trivial (fun _ => ?_))
                clear hK K
                go_simp
                have hl2 : ((kps L).take ix).length + ((kps L).drop (ix + 1)).length = ix + (m - (ix + 1)) := by rw [List.length_take, List.length_drop, hkl]; omega
                have hl3 : ((kps L).take ix).length = ix := by rw [List.length_take, hkl]; omega
                obtain ⟨ae, ce, wG, hrunB, hOB, hgB, hNB⟩ := run_appendK wF 30 _ _ hOA _ _ (hfT wF hOF.holds) (by rw [hl2]; omega)
                rw [hl2] at hrunB hOB hNB
                refine wpAnyH_ready (rs := [9]) (by kernel_rfl) (by simp) (AllReadyH.cons rfl (fun K hK => ?_) <| AllReadyH.nil)
                refine step_append_run 30 (.tmp 152) (.tmp 156) (by rfl) (by rfl) _ _ (by rfl) (by rfl) hrunB (hK.out _ _ trivial (fun _ => ?_))
                clear hK K
                go_simp
                refine wpAnyH_take (i := 10) (v := .slice ae (ix + (m - (ix + 1))) ce) rfl (by kernel_rfl) (by kernel_rfl) (by kernel_rfl) (fun _ _ _ h => h) (Or.inl ⟨by rfl, fun w hS => by have hS' : True := hS; go_simp⟩) S0 ?_
                go_simp
                refine wpAnyH_done (by kernel_rfl) ?_ _
                have hfA : ∀ g, (Value.slice ad ix cd).ownBlock = some g → w4.heap.size ≤ g := fun g hg => by
                  have h1 := kD.size
                  rcases hNA g hg with h | h
                  · simp [Value.ownBlock] at h; omega
                  · have := kE.size; omega
                have kF : Kept [] w4 wF := (kD.trans kE (by simp)).trans kA (fun z hz => .inr (by simp at hz; subst hz; exact kD.size))
                have kG : Kept [] w4 wG := kF.grown hgB (fun z hz => .inr (hfA z hz))
                have hfB : ∀ g, (Value.slice ae (ix + (m - (ix + 1))) ce).ownBlock = some g → w4.heap.size ≤ g := fun g hg => by
                  rcases hNB g hg with h | h
                  · exact hfA g h
                  · exact Nat.le_trans kF.size h
                have hSz := (hS4.more (Y := (Value.slice ae (ix + (m - (ix + 1))) ce).ownBlock.toList) kG (fun z hz => hfB z (by simpa using hz))).less (Y := (Value.slice ae (ix + (m - (ix + 1))) ce).ownBlock.toList) (fun z hz => List.mem_append.2 (.inl hz))
                have eK : (kps L).take ix ++ (kps L).drop (ix + 1) = kps (L.take ix ++ L.drop (ix + 1)) := by simp [kps, List.map_take, List.map_drop]
                rw [eK] at hOB
                have hFz : ∀ g, (Value.slice ae (ix + (m - (ix + 1))) ce).ownBlock = some g → w.heap.size ≤ g := fun g hg => Nat.le_trans hS4.k.size (hfB g hg)
                have hCz := hC.later (n := 26 * (j + 1)) (by omega)
                have hlen2 : ix + (m - (ix + 1)) ≤ 255 := by omega
                generalize ix + (m - (ix + 1)) = m2 at hSz hOB hFz hlen2 ⊢
                clear hS4 kG kF hfA hfB kA kE kD hNA hNB hgA hgB hOA hOF hOE hOD hE hrunA hrunB hl1 hl2 hl3 eK hsl hsT hfl hfT hO4
                have hal := alike_any hSz hCz.1 _ hOB.holds
                have HSz := Hid.mk hSz
                have HOz := Hid.mk hOB
                have HCz := Hid.mk hCz
                have HFz := Hid.mk hFz
                clear hSz hOB hC hCz hFz hFr hXl3 kx
                go_wp2_with fail
                refine hal.mono ?_
                rintro e wT ⟨rfl, kT⟩
                have HST := Hid.mk (HSz.out.kept kT)
                have HOT := Hid.mk (HOz.out.kept kT (by simp))
                clear hal kT HSz HOz
                go_wp2_with fail
                exact ⟨⟨j + 1, _, _, _, _, by go_num, by omega, rfl, rfl, HST.out, HCz.out, HOT.out, HFz.out⟩, by simp [numOf]; omega⟩
          · have q2 : (kd == 2) = false := by simpa using hk2
            clear hk2
            by_cases hk3 : kd = 3
            · subst hk3
              as_aux_lemma =>
                have hml : (L.map (·.1)).length = m := by rw [List.length_map]; exact hm.out
                have hnm := namesL_any w3 _ (kps L) hO3.holds (by rw [hkl]; omega)
                rw [kps_names] at hnm
                go_wp2_with fail
                refine hnm.mono ?_
                rintro e w4 ⟨u4, rfl, hO4, k4, -⟩
                obtain ⟨a4, c4, rfl, -, -⟩ := hO4.form
                rw [hml] at hO4 ⊢
                have hop := sy_open (hS3.kept k4) hC.1 (by have := hm.out; omega) a4 m c4 hm.out.symm hO4.reads (fun y hy => Nat.lt_of_lt_of_le (hXl3 y hy) k4.size)
                clear hnm
                go_wp2_with fail
                refine hop.mono ?_
                rintro e w5 ⟨p5, fl5, rfl, hS5, k5⟩
                have hSz := hS5.less hXs
                have hO5 := (hO3.kept k4 (by simp)).kept k5 (by simp)
                have hCz := hC.later (n := 26 * (j + 1)) (by omega)
                have hal := alike_any hSz hCz.1 _ hO5.holds
                have HSz := Hid.mk hSz
                have HOz := Hid.mk hO5
                have HCz := Hid.mk hCz
                have HFz := Hid.mk hFr
                clear hop hS5 hSz hS3 hO3 hO5 hO4 k4 k5 hC hCz hFr hr3 hb3 hXl3 b0 b1 b2
                go_wp2_with fail
                refine hal.mono ?_
                rintro e wT ⟨rfl, kT⟩
                have HST := Hid.mk (HSz.out.kept kT)
                have HOT := Hid.mk (HOz.out.kept kT (by simp))
                clear hal kT HSz HOz
                go_wp2_with fail
                exact ⟨⟨j + 1, _, _, _, _, by go_num, by omega, rfl, rfl, HST.out, HCz.out, HOT.out, HFz.out⟩, by simp [numOf]; omega⟩
            · have q3 : (kd == 3) = false := by simpa using hk3
              clear hk3
              by_cases hk4 : kd = 4
              · subst hk4
                obtain ⟨f5, hf5, hfe⟩ := idx_of xn 5 (by omega) (by omega)
                by_cases hff : f5 < bks T
                · have tg : (f5 : Int) < (bks T : Int) := by omega
                  as_aux_lemma =>
                    rw [show ((5 : Nat) : Int) = 5 from rfl] at hfe
                    have hfu := sy_fuse hS3 f5 (by omega)
                    go_wp2_with fail
                    refine hfu.mono ?_
                    rintro e w4 ⟨rfl, hS4, kx4⟩
                    have hO4 := hO3.keptX kx4 hXo
                    have hr4 := hr3.keptX kx4 hXt
                    have hXl4 : ∀ y ∈ X, y < w4.heap.size := fun y hy => Nat.lt_of_lt_of_le (hXl3 y hy) kx4.size
                    have hws := hC.2.2
                    clear hfu hS3 hO3 hr3 hb3 hXl3 b0 b1 b2 kx4
                    have hput := sy_put_lost hS4 a2 T c2 tx hTl.out hr4 (fun g hg => .inl (hXt g hg)) hXl4 (by omega) (by rw [hfl0.out]; omega) hC.1 f5 rfl hff (by show s.ws.length ≤ _; omega)
                    go_wp2_with fail
                    refine hput.mono ?_
                    rintro e w5 ⟨rfl, vs, hvs, hS5, kx5⟩
                    have hO5 := hO4.keptX kx5 hXo
                    have hre := sy_restart hS5
                    clear hput hS4 hS5
                    go_wp2_with fail
                    refine hre.mono ?_
                    rintro e w7 ⟨rfl, hS7, kx7⟩
                    have hO7 := hO5.keptX kx7 hXo
                    have hml : (List.map (·.1) L).length = m := by rw [List.length_map]; exact hm.out
                    have hnm := namesL_any w7 _ _ hO7.holds (by rw [kps_length, hm.out]; omega)
                    rw [kps_names] at hnm
                    have hXl7 := (fun y hy => Nat.lt_of_lt_of_le (Nat.lt_of_lt_of_le (hXl4 y hy) kx5.size) kx7.size : ∀ y ∈ X, y < w7.heap.size)
                    clear hre
                    go_wp2_with fail
                    refine hnm.mono ?_
                    rintro e w8 ⟨u8', rfl, hO8, k8, -⟩
                    obtain ⟨a8, c8, rfl, -, -⟩ := hO8.form
                    rw [hml] at hO8 ⊢
                    have hop := sy_open (hS7.kept k8) rfl (by rw [hm.out]; omega) a8 (m) c8 (hm.out).symm hO8.reads (fun y hy => Nat.lt_of_lt_of_le (hXl7 y hy) k8.size)
                    clear hnm
                    go_wp2_with fail
                    refine hop.mono ?_
                    rintro e w9 ⟨p9, fl9, rfl, hS9, k9⟩
                    have hSz := hS9.less hXs
                    have hO9 := (hO7.kept k8 (by simp)).kept k9 (by simp)
                    have hCz : Calm ({ ({ ({ s with fuse := (f5 : Int) } : St) with ws := s.ws ++ vs, fuse := 0, down := true } : St) with fuse := -1, down := false } : St) (26 * (j + 1)) := ⟨rfl, rfl, by show (s.ws ++ vs).length ≤ _; rw [List.length_append, hvs]; omega⟩
                    have hal := alike_any hSz hCz.1 _ hO9.holds
                    have HSz := Hid.mk hSz
                    have HOz := Hid.mk hO9
                    have HCz := Hid.mk hCz
                    have HFz := Hid.mk hFr
                    clear hop hS7 hS9 hSz hO4 hO5 hO7 hO8 hO9 k8 k9 kx7 kx5 hC hCz hFr hr4 hXl4 hXl7 hvs
                    go_wp2_with fail
                    refine hal.mono ?_
                    rintro e wT ⟨rfl, kT⟩
                    have HST := Hid.mk (HSz.out.kept kT)
                    have HOT := Hid.mk (HOz.out.kept kT (by simp))
                    clear hal kT HSz HOz
                    go_wp2_with fail
                    exact ⟨⟨j + 1, _, _, _, _, by go_num, by omega, rfl, rfl, HST.out, HCz.out, HOT.out, HFz.out⟩, by simp [numOf]; omega⟩
                · have tg : ¬ (f5 : Int) < (bks T : Int) := by omega
                  as_aux_lemma =>
                    rw [show ((5 : Nat) : Int) = 5 from rfl] at hfe
                    have hfu := sy_fuse hS3 f5 (by omega)
                    go_wp2_with fail
                    refine hfu.mono ?_
                    rintro e w4 ⟨rfl, hS4, kx4⟩
                    have hO4 := hO3.keptX kx4 hXo
                    have hr4 := hr3.keptX kx4 hXt
                    have hXl4 : ∀ y ∈ X, y < w4.heap.size := fun y hy => Nat.lt_of_lt_of_le (hXl3 y hy) kx4.size
                    have hws := hC.2.2
                    clear hfu hS3 hO3 hr3 hb3 hXl3 b0 b1 b2 kx4
                    have hput := sy_put hS4 a2 T c2 tx hTl.out hr4 (fun g hg => .inl (hXt g hg)) hXl4 (by omega) (by rw [hfl0.out]; omega) hC.1 (.inr (by show (bks T : Int) ≤ (f5 : Int); omega)) (by show s.ws.length ≤ _; omega)
                    have hOq := hO4
                    have hrq := hr4
                    clear hO4 hr4
                    go_wp2_with fail
                    refine hput.mono ?_
                    rintro e w4' ⟨nm, vs, fu, rfl, -, hvs, -, -, hS4q, kx⟩
                    clear hS4
                    have hS4 := hS4q
                    clear hS4q
                    have hO4 := hOq.keptX kx hXo
                    have hr4 := hrq.keptX kx hXt
                    have hst := str34 _ _ _ hr4
                    have hS4' := hS4.less hXs
                    obtain ⟨ad, cd, w5, hrun, hO5, k5, hN5⟩ := append_kept hO4 (nm, tx) (by rw [hkl]; omega)
                    rw [hkl] at hrun hO5 hN5
                    have hS5 := hS4'.turn2 (Y := (Value.slice ad (m + 1) cd).ownBlock.toList) k5 (fun y hy => hy) (fun y hy => hFr y (by simpa using hy)) (fun y hy => by
                      rw [Option.mem_toList] at hy
                      rcases hN5 y hy with h | h
                      · exact .inl (by rw [Option.mem_toList]; exact h)
                      · exact .inr h)
                    have hF5 : ∀ g, (Value.slice ad (m + 1) cd).ownBlock = some g → w.heap.size ≤ g := fun g hg => by
                      rcases hN5 g hg with h | h
                      · exact hFr g h
                      · have := hS4.k.size; omega
                    have e9 : kps (L ++ [(nm, fl.take (bks T), tx)]) = kps L ++ [(nm, tx)] := by simp [kps]
                    rw [← e9] at hO5
                    dsimp only at hrun
                    generalize (⟨tx.toArray⟩ : ByteArray) = TB at hrun hst
                    have hLm : (L ++ [(nm, fl.take (bks T), tx)]).length = m + 1 := by rw [List.length_append, hm.out]; rfl
                    have HO5 := Hid.mk hO5
                    have HF5 := Hid.mk hF5
                    have hre := sy_restart hS5
                    clear hput hS4 hS4' hS5 kx hO4 hr4 k5 hN5 hOq hrq hFr e9 hO5 hF5 hXl4
                    go_wp2_with (at_builtin; refine wpList_append_run 30 _ _ rfl rfl _ _ rfl rfl _ _ hrun ?_)
                    refine hre.mono ?_
                    rintro e w7 ⟨rfl, hS7, kx7⟩
                    have hO7 := HO5.out.keptX kx7 (fun g hg => by rw [Option.mem_toList]; exact hg)
                    have hml : (List.map (·.1) (L ++ [(nm, fl.take (bks T), tx)])).length = m + 1 := by rw [List.length_map]; exact hLm
                    have hnm := namesL_any w7 _ _ hO7.holds (by rw [kps_length, hLm]; omega)
                    rw [kps_names] at hnm
                    have hXl7 := (fun y hy => hO7.lt (by simpa using hy) : ∀ y ∈ (Value.slice ad (m + 1) cd).ownBlock.toList, y < w7.heap.size)
                    clear hre
                    go_wp2_with fail
                    refine hnm.mono ?_
                    rintro e w8 ⟨u8', rfl, hO8, k8, -⟩
                    obtain ⟨a8, c8, rfl, -, -⟩ := hO8.form
                    rw [hml] at hO8 ⊢
                    have hop := sy_open (hS7.kept k8) rfl (by rw [hLm]; omega) a8 (m + 1) c8 (hLm).symm hO8.reads (fun y hy => Nat.lt_of_lt_of_le (hXl7 y hy) k8.size)
                    clear hnm
                    go_wp2_with fail
                    refine hop.mono ?_
                    rintro e w9 ⟨p9, fl9, rfl, hS9, k9⟩
                    have hSz := hS9.less (Y := (Value.slice ad (m + 1) cd).ownBlock.toList) (fun y hy => hy)
                    have hO9 := (hO7.kept k8 (by simp)).kept k9 (by simp)
                    have hCz : Calm ({ ({ ({ s with fuse := (f5 : Int) } : St) with ws := s.ws ++ vs, fuse := fu } : St) with fuse := -1, down := false } : St) (26 * (j + 1)) := ⟨rfl, rfl, by show (s.ws ++ vs).length ≤ _; rw [List.length_append, hvs]; omega⟩
                    have hF9 := HF5.out
                    have hal := alike_any hSz hCz.1 _ hO9.holds
                    have HSz := Hid.mk hSz
                    have HOz := Hid.mk hO9
                    have HCz := Hid.mk hCz
                    have HFz := Hid.mk hF9
                    clear hop hS7 hS9 hSz hO7 hO8 hO9 HO5 HF5 k8 k9 kx7 hC hCz hF9 hXl7 hvs hrun hst
                    go_wp2_with fail
                    refine hal.mono ?_
                    rintro e wT ⟨rfl, kT⟩
                    have HST := Hid.mk (HSz.out.kept kT)
                    have HOT := Hid.mk (HOz.out.kept kT (by simp))
                    clear hal kT HSz HOz
                    go_wp2_with fail
                    exact ⟨⟨j + 1, _, _, _, _, by go_num, by omega, rfl, rfl, HST.out, HCz.out, HOT.out, HFz.out⟩, by simp [numOf]; omega⟩
              · have q4 : (kd == 4) = false := by simpa using hk4
                clear hk4
                as_aux_lemma =>
                  have hSz := hS3.less hXs
                  have hCz := hC.later (n := 26 * (j + 1)) (by omega)
                  have hal := alike_any hSz hCz.1 _ hO3.holds
                  have HSz := Hid.mk hSz
                  have HOz := Hid.mk hO3
                  have HCz := Hid.mk hCz
                  have HFz := Hid.mk hFr
                  clear hSz hS3 hO3 hC hCz hFr hr3 hb3 hXl3
                  go_wp2_with fail
                  refine hal.mono ?_
                  rintro e wT ⟨rfl, kT⟩
                  have HST := Hid.mk (HSz.out.kept kT)
                  have HOT := Hid.mk (HOz.out.kept kT (by simp))
                  clear hal kT HSz HOz
                  go_wp2_with fail
                  exact ⟨⟨j + 1, _, _, _, _, by go_num, by omega, rfl, rfl, HST.out, HCz.out, HOT.out, HFz.out⟩, by simp [numOf]; omega⟩
      · have tf : (fl0 : Int) < (bks T : Int) := by omega
        by_cases hk1 : kd = 1
        · subst hk1
          as_aux_lemma =>
            have hws := sy_writes hS3
            have hput := sy_put_full hS3 a2 T c2 (by omega) (by rw [hfl0.out]; omega)
            have hSz := Hid.mk (hS3.less hXs)
            have hCz := hC.later (n := 26 * (j + 1)) (by omega)
            go_wp2_with fail
            refine hws.mono ?_
            rintro e w3' ⟨rfl, rfl⟩
            clear hws
            go_wp2_with fail
            refine hput.mono ?_
            rintro e w3' ⟨rfl, rfl⟩
            clear hput
            have hal := alike_any hSz.out hCz.1 _ hO3.holds
            have HSz := Hid.mk hSz.out
            have HOz := Hid.mk hO3
            have HCz := Hid.mk hCz
            have HFz := Hid.mk hFr
            clear hSz hS3 hO3 hC hCz hFr hr3 hb3 hXl3
            go_wp2_with fail
            refine hal.mono ?_
            rintro e wT ⟨rfl, kT⟩
            have HST := Hid.mk (HSz.out.kept kT)
            have HOT := Hid.mk (HOz.out.kept kT (by simp))
            clear hal kT HSz HOz
            go_wp2_with fail
            exact ⟨⟨j + 1, _, _, _, _, by go_num, by omega, rfl, rfl, HST.out, HCz.out, HOT.out, HFz.out⟩, by simp [numOf]; omega⟩
        · have q1 : (kd == 1) = false := by simpa using hk1
          clear hk1
          by_cases hk2 : kd = 2
          · subst hk2
            rcases Nat.eq_zero_or_pos m with hm0 | hm0
            · have u0 : ¬ (0 : Int) < (m : Int) := by omega
              clear hm0
              as_aux_lemma =>
                have hSz := hS3.less hXs
                have hCz := hC.later (n := 26 * (j + 1)) (by omega)
                have hal := alike_any hSz hCz.1 _ hO3.holds
                have HSz := Hid.mk hSz
                have HOz := Hid.mk hO3
                have HCz := Hid.mk hCz
                have HFz := Hid.mk hFr
                clear hSz hS3 hO3 hC hCz hFr hr3 hb3 hXl3
                go_wp2_with fail
                refine hal.mono ?_
                rintro e wT ⟨rfl, kT⟩
                have HST := Hid.mk (HSz.out.kept kT)
                have HOT := Hid.mk (HOz.out.kept kT (by simp))
                clear hal kT HSz HOz
                go_wp2_with fail
                exact ⟨⟨j + 1, _, _, _, _, by go_num, by omega, rfl, rfl, HST.out, HCz.out, HOT.out, HFz.out⟩, by simp [numOf]; omega⟩
            · have u0 : (0 : Int) < (m : Int) := by omega
              as_aux_lemma =>
                obtain ⟨ix, hix, hixe⟩ := idx_of xn m hm0 (by omega)
                obtain ⟨y, hy⟩ : ∃ y, L[ix]? = some y := ⟨L[ix]'(by have := hm.out; omega), by simp⟩
                have hkj : (kps L)[ix]? = some (y.1, y.2.2) := by simp [kps, hy]
                have hsp := split_at hy
                obtain ⟨g10, o10, c10', hve, hcn, -⟩ := hO3.holds.at ix _ hkj
                rw [hkl] at hve
                injection hve with e1 e2 e3
                subst e1 e3
                have tix : (ix : Int) < (m : Int) := by omega
                have hS3' := hS3
                rw [hsp] at hS3'
                have hyL : y ∈ L := List.mem_of_getElem? hy
                have hy6 : y.1 < 65536 := (hS3.ok.lies y hyL).small _ (hS3.ok.self hyL)
                have hno := hS3'.ok.names
                have hdr := sy_drop hS3' hXl3
                clear hS3 hS3' e2 hm0
                go_wp2_with fail
                refine hdr.mono ?_
                rintro e w4 ⟨rfl, hS4, kx⟩
                have hO4 := hO3.keptX kx hXo
                obtain ⟨g11, o11, c11, hve, hcn4, -⟩ := hO4.holds.at ix _ hkj
                rw [hkl] at hve
                injection hve with e1 e2 e3
                injection e1 with e1
                injection e1 with e1 e4 _
                subst e1 e4
                have hdn := sy_drop_none hS4 (y.1 : Int) (by simp [Lit.wf, IntKind.min, IntKind.max, IntKind.signed, IntKind.bits]; omega) (fun z hz he => by
                  have he' : z.1 = y.1 := by omega
                  rw [List.map_append, List.map_cons] at hno
                  rcases List.mem_append.1 hz with hz | hz
                  · exact (List.nodup_append.1 hno).2.2 z.1 (List.mem_map.2 ⟨z, hz, rfl⟩) y.1 (by simp) he'
                  · exact (List.nodup_cons.1 (List.nodup_append.1 hno).2.1).1 (he' ▸ List.mem_map.2 ⟨z, hz, rfl⟩))
                obtain ⟨asl, csl, hsl, hsT, -⟩ := sliceK_to (some ⟨g10, o10, none⟩) m c10 ix (kps L) w4 hkl.symm hO4.holds (by omega)
                obtain ⟨bsl, dsl, hfl, hfT⟩ := sliceK_from (some ⟨g10, o10, none⟩) m c10 (ix + 1) (kps L) w4 hkl.symm hO4.holds (by omega)
                rw [show ((ix + 1 : Nat) : Int) = (ix : Int) + 1 by omega] at hfl
                have kD := (Kept.refl [] w4).drew
                have hwi : IntKind.i64.wrap ((ix : Int) + 1) = (ix : Int) + 1 := by rw [IntKind.wrap_i64]; omega
                have S0 : True := trivial
                clear hdr hcn hno hO3 hr3 hb3 hsp e2 e3 hkj
                go_wp2_with fail
                refine hdn.mono ?_
                rintro e w4' ⟨rfl, rfl⟩
                clear hdn hcn4
                go_wp2_with fail
                refine wp_region_held_drew (S := fun w' => True) (by kernel_rfl) S0 (fun _ => ?_)
                generalize w4.drew = wD at kD ⊢
                refine wpAnyH_take (i := 1) (v := .slice (some ⟨g10, o10, none⟩) m c10) rfl (by kernel_rfl) (by kernel_rfl) (by kernel_rfl) (fun _ _ _ h => h) (Or.inl ⟨by rfl, fun w hS => by have hS' : True := hS; go_simp⟩) S0 ?_
                go_simp
                refine wpAnyH_take (i := 2) (v := .int .i64 (ix : Int)) rfl (by kernel_rfl) (by kernel_rfl) (by kernel_rfl) (fun _ _ _ h => h) (Or.inl ⟨by rfl, fun w hS => by have hS' : True := hS; go_simp⟩) S0 ?_
                go_simp
                refine wpAnyH_take (i := 3) (v := .slice asl ix csl) rfl (by kernel_rfl) (by kernel_rfl) (by kernel_rfl) (fun _ _ _ h => h) (Or.inl ⟨by rfl, fun w hS => by have hS' : True := hS; go_simp⟩) S0 ?_
                go_simp
                refine wpAnyH_take (i := 5) (v := .slice (some ⟨g10, o10, none⟩) m c10) rfl (by kernel_rfl) (by kernel_rfl) (by kernel_rfl) (fun _ _ _ h => h) (Or.inl ⟨by rfl, fun w hS => by have hS' : True := hS; go_simp⟩) S0 ?_
                go_simp
                refine wpAnyH_take (i := 6) (v := .int .i64 (ix : Int)) rfl (by kernel_rfl) (by kernel_rfl) (by kernel_rfl) (fun _ _ _ h => h) (Or.inl ⟨by rfl, fun w hS => by have hS' : True := hS; go_simp⟩) S0 ?_
                go_simp
                refine wpAnyH_take (i := 7) (v := .int .i64 ((ix : Int) + 1)) rfl (by kernel_rfl) (by kernel_rfl) (by kernel_rfl) (fun _ _ _ h => h) (Or.inl ⟨by rfl, fun w hS => by have hS' : True := hS; go_simp⟩) S0 ?_
                go_simp
                refine wpAnyH_take (i := 8) (v := .slice bsl (m - (ix + 1)) dsl) rfl (by kernel_rfl) (by kernel_rfl) (by kernel_rfl) (fun _ _ _ h => h) (Or.inl ⟨by rfl, fun w hS => by have hS' : True := hS; go_simp⟩) S0 ?_
                go_simp
                have hOD := hO4.kept kD (by simp)
                have hgD : g10 < wD.heap.size := hOD.lt rfl
                have kE := kept_alloc wD (.cells #[] 42)
                have hE := ownsK_empty wD
                refine wpAnyH_ready (rs := [0]) (by kernel_rfl) (by simp) (AllReadyH.cons rfl (fun K hK => ?_) <| AllReadyH.nil)
                go_simp
                refine hK.out _ _ trivial (fun _ => ?_)
                clear hK K
                go_simp
                generalize wD.alloc (.cells #[] 42) = wE at kE hE ⊢
                have hOE := hOD.kept kE (by simp)
                have hl1 : ([] : List Kp).length + ((kps L).take ix).length = ix := by rw [List.length_take, hkl]; simp; omega
                obtain ⟨ad, cd, wF, hrunA, hOA, hgA, hNA⟩ := run_appendK wE 30 _ [] hE _ _ (hsT wE hOE.holds) (by rw [hl1]; omega)
                rw [hl1] at hrunA hOA hNA
                rw [List.nil_append] at hOA
                have kA : Kept [wD.heap.size] wE wF := (Kept.refl _ wE).grown hgA (fun x hx => .inl (by simp [Value.ownBlock] at hx; simp [hx]))
                have hOF := hOE.kept kA (fun g hg => by simp [Value.ownBlock] at hg ⊢; omega)
                refine wpAnyH_ready (rs := [4]) (by kernel_rfl) (by simp) (AllReadyH.cons rfl (fun K hK => ?_) <| AllReadyH.nil)
                refine step_append_run 30 (.tmp 148) (.tmp 151) (by rfl) (by rfl) _ _ (by rfl) (by rfl) hrunA (hK.out _ _ trivial (fun _ => ?_))
                clear hK K
                go_simp
                have hl2 : ((kps L).take ix).length + ((kps L).drop (ix + 1)).length = ix + (m - (ix + 1)) := by rw [List.length_take, List.length_drop, hkl]; omega
                have hl3 : ((kps L).take ix).length = ix := by rw [List.length_take, hkl]; omega
                obtain ⟨ae, ce, wG, hrunB, hOB, hgB, hNB⟩ := run_appendK wF 30 _ _ hOA _ _ (hfT wF hOF.holds) (by rw [hl2]; omega)
                rw [hl2] at hrunB hOB hNB
                refine wpAnyH_ready (rs := [9]) (by kernel_rfl) (by simp) (AllReadyH.cons rfl (fun K hK => ?_) <| AllReadyH.nil)
                refine step_append_run 30 (.tmp 152) (.tmp 156) (by rfl) (by rfl) _ _ (by rfl) (by rfl) hrunB (hK.out _ _ trivial (fun _ => ?_))
                clear hK K
                go_simp
                refine wpAnyH_take (i := 10) (v := .slice ae (ix + (m - (ix + 1))) ce) rfl (by kernel_rfl) (by kernel_rfl) (by kernel_rfl) (fun _ _ _ h => h) (Or.inl ⟨by rfl, fun w hS => by have hS' : True := hS; go_simp⟩) S0 ?_
                go_simp
                refine wpAnyH_done (by kernel_rfl) ?_ _
                have hfA : ∀ g, (Value.slice ad ix cd).ownBlock = some g → w4.heap.size ≤ g := fun g hg => by
                  have h1 := kD.size
                  rcases hNA g hg with h | h
                  · simp [Value.ownBlock] at h; omega
                  · have := kE.size; omega
                have kF : Kept [] w4 wF := (kD.trans kE (by simp)).trans kA (fun z hz => .inr (by simp at hz; subst hz; exact kD.size))
                have kG : Kept [] w4 wG := kF.grown hgB (fun z hz => .inr (hfA z hz))
                have hfB : ∀ g, (Value.slice ae (ix + (m - (ix + 1))) ce).ownBlock = some g → w4.heap.size ≤ g := fun g hg => by
                  rcases hNB g hg with h | h
                  · exact hfA g h
                  · exact Nat.le_trans kF.size h
                have hSz := (hS4.more (Y := (Value.slice ae (ix + (m - (ix + 1))) ce).ownBlock.toList) kG (fun z hz => hfB z (by simpa using hz))).less (Y := (Value.slice ae (ix + (m - (ix + 1))) ce).ownBlock.toList) (fun z hz => List.mem_append.2 (.inl hz))
                have eK : (kps L).take ix ++ (kps L).drop (ix + 1) = kps (L.take ix ++ L.drop (ix + 1)) := by simp [kps, List.map_take, List.map_drop]
                rw [eK] at hOB
                have hFz : ∀ g, (Value.slice ae (ix + (m - (ix + 1))) ce).ownBlock = some g → w.heap.size ≤ g := fun g hg => Nat.le_trans hS4.k.size (hfB g hg)
                have hCz := hC.later (n := 26 * (j + 1)) (by omega)
                have hlen2 : ix + (m - (ix + 1)) ≤ 255 := by omega
                generalize ix + (m - (ix + 1)) = m2 at hSz hOB hFz hlen2 ⊢
                clear hS4 kG kF hfA hfB kA kE kD hNA hNB hgA hgB hOA hOF hOE hOD hE hrunA hrunB hl1 hl2 hl3 eK hsl hsT hfl hfT hO4
                have hal := alike_any hSz hCz.1 _ hOB.holds
                have HSz := Hid.mk hSz
                have HOz := Hid.mk hOB
                have HCz := Hid.mk hCz
                have HFz := Hid.mk hFz
                clear hSz hOB hC hCz hFz hFr hXl3 kx
                go_wp2_with fail
                refine hal.mono ?_
                rintro e wT ⟨rfl, kT⟩
                have HST := Hid.mk (HSz.out.kept kT)
                have HOT := Hid.mk (HOz.out.kept kT (by simp))
                clear hal kT HSz HOz
                go_wp2_with fail
                exact ⟨⟨j + 1, _, _, _, _, by go_num, by omega, rfl, rfl, HST.out, HCz.out, HOT.out, HFz.out⟩, by simp [numOf]; omega⟩
          · have q2 : (kd == 2) = false := by simpa using hk2
            clear hk2
            by_cases hk3 : kd = 3
            · subst hk3
              as_aux_lemma =>
                have hml : (L.map (·.1)).length = m := by rw [List.length_map]; exact hm.out
                have hnm := namesL_any w3 _ (kps L) hO3.holds (by rw [hkl]; omega)
                rw [kps_names] at hnm
                go_wp2_with fail
                refine hnm.mono ?_
                rintro e w4 ⟨u4, rfl, hO4, k4, -⟩
                obtain ⟨a4, c4, rfl, -, -⟩ := hO4.form
                rw [hml] at hO4 ⊢
                have hop := sy_open (hS3.kept k4) hC.1 (by have := hm.out; omega) a4 m c4 hm.out.symm hO4.reads (fun y hy => Nat.lt_of_lt_of_le (hXl3 y hy) k4.size)
                clear hnm
                go_wp2_with fail
                refine hop.mono ?_
                rintro e w5 ⟨p5, fl5, rfl, hS5, k5⟩
                have hSz := hS5.less hXs
                have hO5 := (hO3.kept k4 (by simp)).kept k5 (by simp)
                have hCz := hC.later (n := 26 * (j + 1)) (by omega)
                have hal := alike_any hSz hCz.1 _ hO5.holds
                have HSz := Hid.mk hSz
                have HOz := Hid.mk hO5
                have HCz := Hid.mk hCz
                have HFz := Hid.mk hFr
                clear hop hS5 hSz hS3 hO3 hO5 hO4 k4 k5 hC hCz hFr hr3 hb3 hXl3 b0 b1 b2
                go_wp2_with fail
                refine hal.mono ?_
                rintro e wT ⟨rfl, kT⟩
                have HST := Hid.mk (HSz.out.kept kT)
                have HOT := Hid.mk (HOz.out.kept kT (by simp))
                clear hal kT HSz HOz
                go_wp2_with fail
                exact ⟨⟨j + 1, _, _, _, _, by go_num, by omega, rfl, rfl, HST.out, HCz.out, HOT.out, HFz.out⟩, by simp [numOf]; omega⟩
            · have q3 : (kd == 3) = false := by simpa using hk3
              clear hk3
              by_cases hk4 : kd = 4
              · subst hk4
                obtain ⟨f5, hf5, hfe⟩ := idx_of xn 5 (by omega) (by omega)
                as_aux_lemma =>
                  rw [show ((5 : Nat) : Int) = 5 from rfl] at hfe
                  have hfu := sy_fuse hS3 f5 (by omega)
                  go_wp2_with fail
                  refine hfu.mono ?_
                  rintro e w4 ⟨rfl, hS4, kx4⟩
                  have hO4 := hO3.keptX kx4 hXo
                  have hr4 := hr3.keptX kx4 hXt
                  have hXl4 : ∀ y ∈ X, y < w4.heap.size := fun y hy => Nat.lt_of_lt_of_le (hXl3 y hy) kx4.size
                  have hws := hC.2.2
                  clear hfu hS3 hO3 hr3 hb3 hXl3 b0 b1 b2 kx4
                  have hput := sy_put_full hS4 a2 T c2 (by omega) (by rw [hfl0.out]; omega)
                  go_wp2_with fail
                  refine hput.mono ?_
                  rintro e w4' ⟨rfl, rfl⟩
                  have hre := sy_restart hS4
                  clear hput hS4
                  go_wp2_with fail
                  refine hre.mono ?_
                  rintro e w7 ⟨rfl, hS7, kx7⟩
                  have hO7 := hO4.keptX kx7 hXo
                  have hml : (List.map (·.1) L).length = m := by rw [List.length_map]; exact hm.out
                  have hnm := namesL_any w7 _ _ hO7.holds (by rw [kps_length, hm.out]; omega)
                  rw [kps_names] at hnm
                  have hXl7 := (fun y hy => Nat.lt_of_lt_of_le (hXl4 y hy) kx7.size : ∀ y ∈ X, y < w7.heap.size)
                  clear hre
                  go_wp2_with fail
                  refine hnm.mono ?_
                  rintro e w8 ⟨u8', rfl, hO8, k8, -⟩
                  obtain ⟨a8, c8, rfl, -, -⟩ := hO8.form
                  rw [hml] at hO8 ⊢
                  have hop := sy_open (hS7.kept k8) rfl (by rw [hm.out]; omega) a8 (m) c8 (hm.out).symm hO8.reads (fun y hy => Nat.lt_of_lt_of_le (hXl7 y hy) k8.size)
                  clear hnm
                  go_wp2_with fail
                  refine hop.mono ?_
                  rintro e w9 ⟨p9, fl9, rfl, hS9, k9⟩
                  have hSz := hS9.less hXs
                  have hO9 := (hO7.kept k8 (by simp)).kept k9 (by simp)
                  have hCz : Calm ({ ({ s with fuse := (f5 : Int) } : St) with fuse := -1, down := false } : St) (26 * (j + 1)) := ⟨rfl, rfl, by show s.ws.length ≤ _; omega⟩
                  have hal := alike_any hSz hCz.1 _ hO9.holds
                  have HSz := Hid.mk hSz
                  have HOz := Hid.mk hO9
                  have HCz := Hid.mk hCz
                  have HFz := Hid.mk hFr
                  clear hop hS7 hS9 hSz hO4 hO7 hO8 hO9 k8 k9 kx7 hC hCz hFr hr4 hXl4 hXl7
                  go_wp2_with fail
                  refine hal.mono ?_
                  rintro e wT ⟨rfl, kT⟩
                  have HST := Hid.mk (HSz.out.kept kT)
                  have HOT := Hid.mk (HOz.out.kept kT (by simp))
                  clear hal kT HSz HOz
                  go_wp2_with fail
                  exact ⟨⟨j + 1, _, _, _, _, by go_num, by omega, rfl, rfl, HST.out, HCz.out, HOT.out, HFz.out⟩, by simp [numOf]; omega⟩
              · have q4 : (kd == 4) = false := by simpa using hk4
                clear hk4
                as_aux_lemma =>
                  have hSz := hS3.less hXs
                  have hCz := hC.later (n := 26 * (j + 1)) (by omega)
                  have hal := alike_any hSz hCz.1 _ hO3.holds
                  have HSz := Hid.mk hSz
                  have HOz := Hid.mk hO3
                  have HCz := Hid.mk hCz
                  have HFz := Hid.mk hFr
                  clear hSz hS3 hO3 hC hCz hFr hr3 hb3 hXl3
                  go_wp2_with fail
                  refine hal.mono ?_
                  rintro e wT ⟨rfl, kT⟩
                  have HST := Hid.mk (HSz.out.kept kT)
                  have HOT := Hid.mk (HOz.out.kept kT (by simp))
                  clear hal kT HSz HOz
                  go_wp2_with fail
                  exact ⟨⟨j + 1, _, _, _, _, by go_num, by omega, rfl, rfl, HST.out, HCz.out, HOT.out, HFz.out⟩, by simp [numOf]; omega⟩
    · have hni : ¬ (j : Int) < (N0 : Int) := by omega
      have hK := hS.k
      clear hS hO
      go_wp2
      go_ret
      exact ⟨rfl, hK⟩
end Go.Proofs.Ytilelklcfgemoaa
