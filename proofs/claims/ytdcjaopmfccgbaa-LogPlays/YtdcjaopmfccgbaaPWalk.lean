/-
  LogPlays answers true.
-/
import Derived.Test.YtdcjaopmfccgbaaPAny
import Derived.BigQuiet
namespace Go.Proofs.Ytdcjaopmfccgbaa
open Go.RowKit
set_option linter.unusedVariables false

set_option maxRecDepth 100000 in
set_option maxHeartbeats 4000000 in
theorem plays_walk (ct fr : Nat) (hct : ct ≤ 255) (hfr : fr ≤ 255) (hc1 : 1 ≤ ct) (v : Value) (ls : List OpL) (w : World) (hv : HoldsO w v ls) (hn : ls.length ≤ 60) : Calls Try.prog 3 #[.int .u8 (ct : Int), .int .u8 (fr : Int), v] w fun e w' => e = .returned (.bool true) ∧ Kept [] w w' := by
  have HV := Hid.mk hv
  obtain ⟨al, cl, rfl, hcl1, hcl2, -⟩ := hv
  have hcl2' : cl ≤ 9223372036854775807 := hcl2
  clear hcl2
  have t1 : ¬ (60 : Int) < (ls.length : Int) := by omega
  have t2 : ((ct : Int) == 0) = false := by simp; omega
  have hnew : Hid (∀ w0, Kept [] w w0 → Calls Try.prog 9 #[.int .i64 ((ct : Int) + (fr : Int))] w0 fun e w1 => ∃ q, e = .returned (.pointer (some ⟨q, 0, none⟩)) ∧ Kept [] w0 w1 ∧ ∀ w2 Y, Kept [] w1 w2 → (∀ y ∈ Y, w1.heap.size ≤ y ∧ y < w2.heap.size) → Calls Try.prog 10 #[.pointer (some ⟨q, 0, none⟩), .int .i64 (fr : Int), .int .i64 (ct : Int), .int .u64 1] w2 fun e w' => ∃ p, e = .returned (.tuple #[.pointer (some ⟨p, 0, none⟩), .int .i64 0]) ∧ Sy w w' q p ⟨ct + fr, [], -1, false⟩ fr ct 1 [] false Y ∧ Kept [] w2 w') := fun w0 k0 => by
    have := sy_new2 k0 (ct + fr) fr ct 1 (by omega) hc1 (by omega) (by omega)
    rw [Int.natCast_add] at this
    exact this
  go_enter Try.func3, Try.ntmps3
  go_wp2_with fail
  refine (awake_any w).mono ?_
  rintro e w0 ⟨rfl, k0⟩
  have hnw := hnew.out w0 k0
  clear hnew
  go_wp2_with fail
  refine hnw.mono ?_
  rintro e w1 ⟨q, rfl, k1, hop⟩
  have hm0 := IsM.new w1 ct 1
  have k2 : Kept [] w1 (w1.alloc (.cells #[.slice none 0 0, .int .i64 (ct : Int), .int .u64 1] 30)) := (Kept.refl [] w1).alloc _
  rw [show ((1 : Nat) : Int) = 1 from rfl] at hm0
  have hop1 := hop _ [w1.heap.size] k2 (fun y hy => by simp at hy; subst hy; simp)
  have hk01 := k0.trans k1 (by simp)
  obtain ⟨ma, mc, mm0, -, mm1, mm2⟩ := hm0.cells
  clear hnw hop mm0 mm2
  go_wp2_with fail
  refine hop1.mono ?_
  rintro e w2 ⟨p, rfl, hS, k3⟩
  have hP : Pl w w2 q p w1.heap.size ⟨ct + fr, [], -1, false⟩ fr ct 1 [] false [w1.heap.size] [] := ⟨hS, hm0.kept k3 (by simp), fun x hx => by simp at hx; subst hx; exact hk01.size, by simp⟩
  have hC : Calm ⟨ct + fr, [], -1, false⟩ 0 := ⟨rfl, rfl, by simp⟩
  clear hop1 hS k3 hm0 k2 k1 k0 hk01 mm1
  generalize w1.heap.size = r at hP
  go_wp2_with fail
  go_loopw [9, 10, 58] (fun s9 s10 i wr => ∃ (j p : Nat) (s : St) (ep : Nat) (us : List (List UInt8)) (M : List Nat), i = .int .i64 (j : Int) ∧ j ≤ ls.length ∧ s9 = .pointer (some ⟨p, 0, none⟩) ∧ s10 = .int .i64 0 ∧ Pl w wr q p r s fr ct ep us false M [] ∧ Calm s (18 * j) ∧ ep ≤ 1 + 4 * j) (fun _ _ i _ => ls.length - (intOf i).toNat)
  case atStart => exact ⟨0, p, _, 1, [], _, rfl, Nat.zero_le _, rfl, rfl, hP, hC, by omega⟩
  case round =>
    clear hP hC
    obtain ⟨j, p, s, ep, us, M, rfl, hj, rfl, rfl, hP, hC, hep⟩ := hrel
    by_cases hlt : j < ls.length
    · have hlt2 : (j : Int) < (ls.length : Int) := by omega
      obtain ⟨x, hx⟩ : ∃ x, ls[j]? = some x := ⟨ls[j], by simp⟩
      obtain ⟨b, o, cap', ab, cb, hve, d0, d1, d2, hrx, hxo⟩ := HV.out.at j x hx hP.sy.k
      injection hve with e1 e2 e3
      subst e1 e3
      clear e2 hx
      have hlen := hP.sy.len
      have k1 : Kept [] wr (wr.alloc (.cells #[.int .i64 x.kind, .int .i64 x.n, .slice ab x.b.length cb] 37)) := (Kept.refl [] wr).alloc _
      have hb1 : Boxed3 (wr.alloc (.cells #[.int .i64 x.kind, .int .i64 x.n, .slice ab x.b.length cb] 37)) wr.heap.size (.int .i64 x.kind) (.int .i64 x.n) (.slice ab x.b.length cb) := heap_alloc_new wr _
      have hun := unit_any x hxo ab cb (wr.alloc (.cells #[.int .i64 x.kind, .int .i64 x.n, .slice ab x.b.length cb] 37)) ((hrx.kept hP.sy.k (by simp)).kept k1 (by simp))
      have hul := unitL_len x
      have hP1 := hP.kept k1
      obtain ⟨b0, b1, b2⟩ := hb1.cells
      clear hrx hP
      go_wp2_with fail
      generalize wr.alloc (.cells #[.int .i64 x.kind, .int .i64 x.n, .slice ab x.b.length cb] 37) = w1 at k1 hb1 hun hP1 b0 b1 b2
      generalize wr.heap.size = bo at hb1 b0 b1 b2
      refine hun.mono ?_
      rintro e w2 ⟨v2, rfl, hO2, k2, f2⟩
      obtain ⟨a2, c2, hv2⟩ := hO2.form
      subst hv2
      have hb2 := hb1.kept k2 (by simp)
      have hP2 : Pl w w2 q p r s fr ct ep us false M (Value.slice a2 (unitL x).length c2).ownBlock.toList := by
        have h := hP1.kept k2
        refine ⟨?_, h.m, h.m0, fun y hy => ?_⟩
        · have := hP1.sy.more k2 (Y := (Value.slice a2 (unitL x).length c2).ownBlock.toList) (fun y hy => f2 y (by rw [Option.mem_toList] at hy; exact hy))
          exact this
        · rw [Option.mem_toList] at hy
          exact ⟨hO2.lt hy, fun hm => by have := hP1.m.lt y hm; have := f2 y hy; omega⟩
      have hr2 := hO2.reads
      have hX2 : ∀ g, (Value.slice a2 (unitL x).length c2).ownBlock = some g → g ∈ (Value.slice a2 (unitL x).length c2).ownBlock.toList := fun g hg => by rw [Option.mem_toList]; exact hg
      obtain ⟨Y, hY⟩ : ∃ Y, Hid ((Value.slice a2 (unitL x).length c2).ownBlock.toList = Y) := ⟨_, rfl⟩
      rw [hY.out] at hP2 hX2
      have hwr := wrong_any hP2.m hlen.1 hlen.2.1 hlen.2.2.2 hlen.2.2.1 a2 (unitL x).length c2 (by omega)
      obtain ⟨nb, hnb⟩ : ∃ nb, Hid ((unitL x).length = nb) := ⟨_, rfl⟩
      rw [hnb.out] at hwr hr2 hX2 hul ⊢
      obtain ⟨l, hl⟩ : ∃ l, Hid (unitL x = l) := ⟨_, rfl⟩
      rw [hl.out] at hr2
      have hln : Hid (l.length = nb) := by show _ = _; rw [← hl.out]; exact hnb.out
      have hxn : Hid (-9223372036854775808 ≤ x.n ∧ x.n < 9223372036854775808) := ⟨hxo.1, hxo.2.1⟩
      obtain ⟨b0, b1, b2⟩ := hb2.cells
      generalize x.kind = kd at b0 hb2
      generalize x.n = xn at b1 hxn hb2
      clear hun hO2 k2 f2 hP1 hb1 k1 hxo d0 d1 d2
      go_wp2_with fail
      refine hwr.mono ?_
      rintro e w3 ⟨rfl, rfl⟩
      clear hwr
      by_cases hk1 : kd = 1
      · subst hk1
        by_cases hE : wrongE us ct nb = 0
        · skip
          have hws := sy_writes hP2.sy
          have hb18 : bks nb ≤ 18 := by unfold bks; omega
          have hap := sy_append hP2.sy a2 nb c2 l hr2 hln.out (fun g hg => by simp [hX2 g hg]) (fun y hy => hP2.lt y hy) (by omega) hC.1 (by have := hC.2.1; omega) (by have := hC.2.2; omega)
          unfold nextS nextU at hap
          rw [hln.out, if_pos hE, if_pos hE, hE] at hap
          go_wp2_with fail
          refine hws.mono ?_
          rintro e w3 ⟨rfl, rfl⟩
          clear hws
          go_wp2_with fail
          refine hap.mono ?_
          rintro e w4 ⟨rfl, hS4, k4⟩
          have hm4 : IsM w4 M r us ct ep := by
            obtain ⟨S, k, hSx⟩ := k4
            exact hP2.m.kept k (fun x hx => hSx x (by simp [hx]))
          have hr4 := hr2.keptX k4 (fun g hg => by simp [hX2 g hg])
          have hM0 := hP2.m0
          have hbn : ∀ g, (Value.slice a2 nb c2).ownBlock = some g → g ∉ M := fun g hg => (hP2.y g (hX2 g hg)).2
          have hws4 := sy_writes hS4
          rw [show (sj s fr ep (tot us) l (bks nb)).ws.length = s.ws.length + bks nb by show (s.ws ++ uws fr ep (tot us) l (bks nb)).length = _; rw [List.length_append, uws_length], Int.natCast_add] at hws4
          have hub4 := ub_any nb (by omega) w4
          have hCf : Hid (Calm (sj s fr ep (tot us) l (bks nb)) (18 * (j + 1))) := by
            refine ⟨rfl, ?_, ?_⟩
            · show fz s.fuse _ = -1
              rw [hC.2.1]
              rfl
            · show (s.ws ++ uws fr ep (tot us) l (bks nb)).length ≤ _
              rw [List.length_append, uws_length]
              have := hC.2.2
              omega
          have hwl := hC.2.2
          generalize s.ws.length = WL at hws4 hwl
          generalize bks nb = BK at hws4 hub4 hS4 hCf hb18
          clear hap k4 hP2 hr2 hX2 hb2 b0 b1 b2
          go_wp2_with fail
          refine hws4.mono ?_
          rintro e w5 ⟨rfl, rfl⟩
          clear hws4
          go_wp2_with fail
          refine hub4.mono ?_
          rintro e w5 ⟨rfl, rfl⟩
          clear hub4
          have k78 : Kept [] w4 w4.drew := (Kept.refl [] w4).drew
          have hS8 := hS4.kept k78
          have hr8 := hr4.kept k78 (by simp)
          obtain ⟨am, cm, ad, cd, w9, hc0, hc1, hrun, k9, hc2, hf2, M', hm9, k9', hM'⟩ := (hm4.kept k78 (by simp)).text l hlen.1
          have T0 := str35 _ _ w4.drew hr8
          have T1 := str35 _ _ (w4.drew.alloc (.cells #[.string ⟨l.toArray⟩] 9)) (hr8.kept ((Kept.refl [] w4.drew).alloc _) (by simp))
          have T2 := str35 _ _ w9 (hr8.kept k9 hbn)
          have T3 := str35 _ _ _ (hr8.kept k9' hbn)
          have hPf : Hid (Pl w (w9.setCell ⟨r, 0, none⟩ (.slice ad (us.length + 1) cd)) q p r (sj s fr ep (tot us) l BK) fr ct ep (us ++ [l]) false M' []) := by
            refine ⟨hS8.turn2 k9' (fun x hx => by simp [hx]) hM0 (fun y hy => ?_), hm9, fun x hx => ?_, by simp⟩
            · rcases hM' y (by simpa using hy) with h | h
              · exact .inl (by simp [h])
              · exact .inr h
            · rcases hM' x hx with h | h
              · exact hM0 x h
              · exact Nat.le_trans hS8.k.size h
          generalize (⟨l.toArray⟩ : ByteArray) = T at hrun T0 T1 T2 T3 hc1
          clear hS4 hm4 hr4 hS8 hr8 hm9 k9 k9' hM' k78 hM0 hbn
          go_wp2_with fail
          refine wp_region_held_drew (S := fun w' => (convert 35 9 (.slice a2 nb c2)).run Try.prog w' = .ok (.string T) w') (by kernel_rfl) T0 (fun _ => ?_)
          refine wpAnyH_take (i := 0) (v := .pointer (some ⟨r, 0, none⟩)) rfl (by kernel_rfl) (by kernel_rfl) (by kernel_rfl) (fun _ _ _ h => h) (Or.inl ⟨by rfl, fun w hS => by have hS' : (convert 35 9 (.slice a2 nb c2)).run Try.prog w = .ok (.string T) w := hS; go_simp⟩) T0 ?_
          go_simp
          refine wpAnyH_take (i := 1) (v := .pointer (some ⟨r, 0, none⟩)) rfl (by kernel_rfl) (by kernel_rfl) (by kernel_rfl) (fun _ _ _ h => h) (Or.inl ⟨by rfl, fun w hS => by have hS' : (convert 35 9 (.slice a2 nb c2)).run Try.prog w = .ok (.string T) w := hS; go_simp⟩) T0 ?_
          go_simp
          refine wpAnyH_take (i := 2) (v := .pointer (some ⟨r, 0, none⟩)) rfl (by kernel_rfl) (by kernel_rfl) (by kernel_rfl) (fun _ _ _ h => h) (Or.inl ⟨by rfl, fun w hS => by have hS' : (convert 35 9 (.slice a2 nb c2)).run Try.prog w = .ok (.string T) w := hS; go_simp⟩) T0 ?_
          go_simp
          refine wpAnyH_take (i := 3) (v := .pointer (some ⟨r, 0, none⟩)) rfl (by kernel_rfl) (by kernel_rfl) (by kernel_rfl) (fun _ _ _ h => h) (Or.inl ⟨by rfl, fun w hS => by have hS' : (convert 35 9 (.slice a2 nb c2)).run Try.prog w = .ok (.string T) w := hS; go_simp⟩) T0 ?_
          go_simp
          refine wpAnyH_take (i := 5) (v := .slice a2 nb c2) rfl (by kernel_rfl) (by kernel_rfl) (by kernel_rfl) (fun _ _ _ h => h) (Or.inl ⟨by rfl, fun w hS => by have hS' : (convert 35 9 (.slice a2 nb c2)).run Try.prog w = .ok (.string T) w := hS; go_simp⟩) T0 ?_
          go_simp
          refine wpAnyH_take (i := 6) (v := .string T) rfl (by kernel_rfl) (by kernel_rfl) (by kernel_rfl) (fun _ _ _ h => h) (Or.inl ⟨by rfl, fun w hS => by have hS' : (convert 35 9 (.slice a2 nb c2)).run Try.prog w = .ok (.string T) w := hS; go_simp⟩) T0 ?_
          go_simp
          refine wpAnyH_ready (rs := [4, 7]) (by kernel_rfl) (by simp) (AllReadyH.cons rfl (fun K hK => ?a1) (AllReadyH.cons rfl (fun K hK => ?a2) AllReadyH.nil))
          case' a1 =>
            refine step_load (by kernel_rfl) 28 (.tmp 100) (by kernel_rfl) (.pointer (some ⟨r, 0, none⟩)) (by kernel_rfl) (load28 _ _ _ hc0) (hK.out _ _ T0 (fun _ => ?_))
            clear hK K
            go_simp
            refine wpAnyH_ready (rs := [7]) (by kernel_rfl) (by simp) (AllReadyH.cons rfl (fun K hK => ?_) AllReadyH.nil)
            refine step_buildSlice (by kernel_rfl) 28 1 0 (.tmp 103) (by kernel_rfl) (.string T) (by kernel_rfl) (build28 _ _) (hK.out _ _ T1 (fun _ => ?_))
            clear hK K
            go_simp
          case' a2 =>
            refine step_buildSlice (by kernel_rfl) 28 1 0 (.tmp 103) (by kernel_rfl) (.string T) (by kernel_rfl) (build28 _ _) (hK.out _ _ T1 (fun _ => ?_))
            clear hK K
            go_simp
            refine wpAnyH_ready (rs := [4]) (by kernel_rfl) (by simp) (AllReadyH.cons rfl (fun K hK => ?_) AllReadyH.nil)
            refine step_load (by kernel_rfl) 28 (.tmp 100) (by kernel_rfl) (.pointer (some ⟨r, 0, none⟩)) (by kernel_rfl) (load28 _ _ _ hc1) (hK.out _ _ T1 (fun _ => ?_))
            clear hK K
            go_simp
          all_goals
            refine wpAnyH_ready (rs := [8]) (by kernel_rfl) (by simp) (AllReadyH.cons rfl (fun K hK => ?_) AllReadyH.nil)
            refine step_append_run 28 (.tmp 101) (.tmp 104) (by rfl) (by rfl) _ _ (by rfl) (by rfl) hrun (hK.out _ _ T2 (fun _ => ?_))
            clear hK K
            go_simp
            refine wpAnyH_take (i := 9) (v := .pointer (some ⟨r, 0, none⟩)) rfl (by kernel_rfl) (by kernel_rfl) (by kernel_rfl) (fun _ _ _ h => h) (Or.inl ⟨by rfl, fun w hS => by have hS' : (convert 35 9 (.slice a2 nb c2)).run Try.prog w = .ok (.string T) w := hS; go_simp⟩) T2 ?_
            go_simp
            refine wpAnyH_take (i := 10) (v := .pointer (some ⟨r, 0, none⟩)) rfl (by kernel_rfl) (by kernel_rfl) (by kernel_rfl) (fun _ _ _ h => h) (Or.inl ⟨by rfl, fun w hS => by have hS' : (convert 35 9 (.slice a2 nb c2)).run Try.prog w = .ok (.string T) w := hS; go_simp⟩) T2 ?_
            go_simp
            refine wpAnyH_ready (rs := [11]) (by kernel_rfl) (by simp) (AllReadyH.cons rfl (fun K hK => ?_) AllReadyH.nil)
            refine step_store (by kernel_rfl) 28 (.tmp 107) (.tmp 105) (by kernel_rfl) (.pointer (some ⟨r, 0, none⟩)) (.slice ad (us.length + 1) cd) (by kernel_rfl) (by kernel_rfl) (store28 _ _ _ _ _ _ hc2 hf2) (hK.out _ _ T3 (fun _ => ?_))
            clear hK K
            go_simp
            refine wpAnyH_done (by kernel_rfl) ?_ _
            have hP9 := hPf.out
            obtain ⟨us9, hu9⟩ : ∃ us9, Hid (us ++ [l] = us9) := ⟨_, rfl⟩
            obtain ⟨s9, hs9⟩ : ∃ s9, Hid (sj s fr ep (tot us) l BK = s9) := ⟨_, rfl⟩
            rw [hu9.out, hs9.out] at hP9
            rw [hs9.out] at hCf
            generalize w9.setCell ⟨r, 0, none⟩ (.slice ad (us.length + 1) cd) = wz at hP9 ⊢
            clear hPf T0 T1 T2 T3 hc0 hc1 hc2 hf2 hrun
            have hlz := (hP9).sy.len
            obtain ⟨zb, zd, z0, hzT, z1, z2⟩ := (hP9).m.cells
            have hzlt : r < (wz).drew.heap.size := World.block_lt_of_cell? _ _ z1
            have Z0 : (wz).drew.cell? ⟨r, 0, none⟩ = some (.slice zb (us9).length zd) := z0
            have hPz := (hP9).kept (Kept.refl [] (wz)).drew
            have hU2 := units_same2 hPz.sy (.slice zb (us9).length zd) (hzT.kept (Kept.refl [] (wz)).drew (by simp))
            clear z0 z1 z2 hzT
            go_wp2_with fail
            refine wp_region_held_drew (S := fun w' => w'.cell? ⟨r, 0, none⟩ = some (.slice zb (us9).length zd)) (by kernel_rfl) Z0 (fun _ => ?_)
            refine wpAnyH_take (i := 0) (v := .pointer (some ⟨p, 0, none⟩)) rfl (by kernel_rfl) (by kernel_rfl) (by kernel_rfl) (fun _ _ _ h => h) (Or.inl ⟨by rfl, fun w hS => by have hS' : w.cell? ⟨r, 0, none⟩ = some (.slice zb (us9).length zd) := hS; go_simp⟩) Z0 ?_
            go_simp
            refine wpAnyH_take (i := 1) (v := .bool false) rfl (by kernel_rfl) (by kernel_rfl) (by kernel_rfl) (fun _ _ _ h => h) (Or.inl ⟨by rfl, fun w hS => by have hS' : w.cell? ⟨r, 0, none⟩ = some (.slice zb (us9).length zd) := hS; go_simp⟩) Z0 ?_
            go_simp
            refine wpAnyH_take (i := 2) (v := .bool false) rfl (by kernel_rfl) (by kernel_rfl) (by kernel_rfl) (fun _ _ _ h => h) (Or.inl ⟨by rfl, fun w hS => by have hS' : w.cell? ⟨r, 0, none⟩ = some (.slice zb (us9).length zd) := hS; go_simp⟩) Z0 ?_
            go_simp
            refine wpAnyH_take (i := 3) (v := .int .i64 0) rfl (by kernel_rfl) (by kernel_rfl) (by kernel_rfl) (fun _ _ _ h => h) (Or.inl ⟨by rfl, fun w hS => by have hS' : w.cell? ⟨r, 0, none⟩ = some (.slice zb (us9).length zd) := hS; go_simp⟩) Z0 ?_
            go_simp
            refine wpAnyH_take (i := 4) (v := .bool false) rfl (by kernel_rfl) (by kernel_rfl) (by kernel_rfl) (fun _ _ _ h => h) (Or.inl ⟨by rfl, fun w hS => by have hS' : w.cell? ⟨r, 0, none⟩ = some (.slice zb (us9).length zd) := hS; go_simp⟩) Z0 ?_
            go_simp
            refine wpAnyH_take (i := 5) (v := .bool false) rfl (by kernel_rfl) (by kernel_rfl) (by kernel_rfl) (fun _ _ _ h => h) (Or.inl ⟨by rfl, fun w hS => by have hS' : w.cell? ⟨r, 0, none⟩ = some (.slice zb (us9).length zd) := hS; go_simp⟩) Z0 ?_
            go_simp
            refine wpAnyH_take (i := 6) (v := .bool false) rfl (by kernel_rfl) (by kernel_rfl) (by kernel_rfl) (fun _ _ _ h => h) (Or.inl ⟨by rfl, fun w hS => by have hS' : w.cell? ⟨r, 0, none⟩ = some (.slice zb (us9).length zd) := hS; go_simp⟩) Z0 ?_
            go_simp
            refine wpAnyH_take (i := 7) (v := .pointer (some ⟨p, 0, none⟩)) rfl (by kernel_rfl) (by kernel_rfl) (by kernel_rfl) (fun _ _ _ h => h) (Or.inl ⟨by rfl, fun w hS => by have hS' : w.cell? ⟨r, 0, none⟩ = some (.slice zb (us9).length zd) := hS; go_simp⟩) Z0 ?_
            go_simp
            refine wpAnyH_take (i := 9) (v := .pointer (some ⟨r, 0, none⟩)) rfl (by kernel_rfl) (by kernel_rfl) (by kernel_rfl) (fun _ _ _ h => h) (Or.inl ⟨by rfl, fun w hS => by have hS' : w.cell? ⟨r, 0, none⟩ = some (.slice zb (us9).length zd) := hS; go_simp⟩) Z0 ?_
            go_simp
            refine wpAnyH_take (i := 10) (v := .pointer (some ⟨r, 0, none⟩)) rfl (by kernel_rfl) (by kernel_rfl) (by kernel_rfl) (fun _ _ _ h => h) (Or.inl ⟨by rfl, fun w hS => by have hS' : w.cell? ⟨r, 0, none⟩ = some (.slice zb (us9).length zd) := hS; go_simp⟩) Z0 ?_
            go_simp
            refine wpAnyH_take (i := 11) (v := .pointer (some ⟨r, 0, none⟩)) rfl (by kernel_rfl) (by kernel_rfl) (by kernel_rfl) (fun _ _ _ h => h) (Or.inl ⟨by rfl, fun w hS => by have hS' : w.cell? ⟨r, 0, none⟩ = some (.slice zb (us9).length zd) := hS; go_simp⟩) Z0 ?_
            go_simp
            refine wpAnyH_take (i := 12) (v := .slice zb (us9).length zd) rfl (by kernel_rfl) (by kernel_rfl) (by kernel_rfl) (fun _ _ _ h => h) (Or.inl ⟨by rfl, fun w hS => by have hS' : w.cell? ⟨r, 0, none⟩ = some (.slice zb (us9).length zd) := hS; go_simp⟩) Z0 ?_
            go_simp
            refine wpAnyH_ready (rs := [8]) (by kernel_rfl) (by simp) (AllReadyH.cons rfl (fun K hK => ?_) AllReadyH.nil)
            go_simp
            refine (hU2).mono ?_
            rintro e wa ⟨ga, rfl, ka, hsm⟩
            have Za : wa.cell? ⟨r, 0, none⟩ = some (.slice zb (us9).length zd) := by rw [ka.cell hzlt (by simp)]; exact Z0
            refine hK.out _ _ Za (fun _ => ?_)
            clear hK K
            go_simp
            refine wpAnyH_ready (rs := [13]) (by kernel_rfl) (by simp) (AllReadyH.cons rfl (fun K hK => ?_) AllReadyH.nil)
            go_simp
            refine (hsm).mono ?_
            rintro e wb ⟨rfl, kb⟩
            have Zb : wb.cell? ⟨r, 0, none⟩ = some (.slice zb (us9).length zd) := by rw [kb.cell hzlt (by simp)]; exact Z0
            have hSb := hPz.sy.kept kb
            refine hK.out _ _ Zb (fun _ => ?_)
            clear hK K
            go_simp
            refine wpAnyH_take (i := 14) (v := .bool false) rfl (by kernel_rfl) (by kernel_rfl) (by kernel_rfl) (fun _ _ _ h => h) (Or.inl ⟨by rfl, fun w hS => by have hS' : w.cell? ⟨r, 0, none⟩ = some (.slice zb (us9).length zd) := hS; go_simp⟩) Zb ?_
            go_simp
            refine wpAnyH_take (i := 15) (v := .bool false) rfl (by kernel_rfl) (by kernel_rfl) (by kernel_rfl) (fun _ _ _ h => h) (Or.inl ⟨by rfl, fun w hS => by have hS' : w.cell? ⟨r, 0, none⟩ = some (.slice zb (us9).length zd) := hS; go_simp⟩) Zb ?_
            go_simp
            refine wpAnyH_take (i := 16) (v := .bool false) rfl (by kernel_rfl) (by kernel_rfl) (by kernel_rfl) (fun _ _ _ h => h) (Or.inl ⟨by rfl, fun w hS => by have hS' : w.cell? ⟨r, 0, none⟩ = some (.slice zb (us9).length zd) := hS; go_simp⟩) Zb ?_
            go_simp
            refine wpAnyH_take (i := 17) (v := .pointer (some ⟨p, 0, none⟩)) rfl (by kernel_rfl) (by kernel_rfl) (by kernel_rfl) (fun _ _ _ h => h) (Or.inl ⟨by rfl, fun w hS => by have hS' : w.cell? ⟨r, 0, none⟩ = some (.slice zb (us9).length zd) := hS; go_simp⟩) Zb ?_
            go_simp
            refine wpAnyH_take (i := 19) (v := .pointer (some ⟨r, 0, none⟩)) rfl (by kernel_rfl) (by kernel_rfl) (by kernel_rfl) (fun _ _ _ h => h) (Or.inl ⟨by rfl, fun w hS => by have hS' : w.cell? ⟨r, 0, none⟩ = some (.slice zb (us9).length zd) := hS; go_simp⟩) Zb ?_
            go_simp
            refine wpAnyH_ready (rs := [18]) (by kernel_rfl) (by simp) (AllReadyH.cons rfl (fun K hK => ?_) AllReadyH.nil)
            go_simp
            refine (sy_room hSb).mono ?_
            rintro e wc ⟨rfl, kc⟩
            have kbc := kb.trans kc (by simp)
            have Zc : wc.cell? ⟨r, 0, none⟩ = some (.slice zb (us9).length zd) := by rw [kbc.cell hzlt (by simp)]; exact Z0
            have hmc := hPz.m.kept kbc (by simp)
            refine hK.out _ _ Zc (fun _ => ?_)
            clear hK K
            go_simp
            refine wpAnyH_ready (rs := [20]) (by kernel_rfl) (by simp) (AllReadyH.cons rfl (fun K hK => ?_) AllReadyH.nil)
            go_simp
            refine (mroom_any hmc hlz.1 hlz.2.1 hlz.2.2.2 hlz.2.2.1).mono ?_
            rintro e wd ⟨rfl, rfl⟩
            refine hK.out _ _ Zc (fun _ => ?_)
            clear hK K
            go_simp
            refine wpAnyH_take (i := 21) (v := .bool false) rfl (by kernel_rfl) (by kernel_rfl) (by kernel_rfl) (fun _ _ _ h => h) (Or.inl ⟨by rfl, fun w hS => by have hS' : w.cell? ⟨r, 0, none⟩ = some (.slice zb (us9).length zd) := hS; go_simp⟩) Zc ?_
            go_simp
            refine wpAnyH_take (i := 22) (v := .bool false) rfl (by kernel_rfl) (by kernel_rfl) (by kernel_rfl) (fun _ _ _ h => h) (Or.inl ⟨by rfl, fun w hS => by have hS' : w.cell? ⟨r, 0, none⟩ = some (.slice zb (us9).length zd) := hS; go_simp⟩) Zc ?_
            go_simp
            refine wpAnyH_done (by kernel_rfl) ?_ _
            have hPy := Hid.mk (hPz.kept kbc)
            have hCy : Hid (Calm (s9) (18 * (j + 1))) := hCf.out
            have hEy : Hid (ep ≤ 1 + 4 * (j + 1)) := by show _ ≤ _; omega
            clear hPz Z0 Za Zb Zc hU2 hsm ka kb kc kbc hSb hmc hzlt
            go_wp2_with fail
            exact ⟨⟨j + 1, p, s9, ep, us9, M', by go_num, by omega, rfl, rfl, hPy.out, hCy.out, hEy.out⟩, by simp [intOf]; omega⟩
        · skip
          have hE1 : (wrongE us ct nb == 0) = false := by simpa using hE
          have hws := sy_writes hP2.sy
          have hap := sy_append_no hP2.sy a2 nb c2 (by omega) hE
          generalize wrongE us ct nb = E at hap hE1
          clear hE
          go_wp2_with fail
          refine hws.mono ?_
          rintro e w3 ⟨rfl, rfl⟩
          clear hws
          go_wp2_with fail
          refine hap.mono ?_
          rintro e w4 ⟨rfl, k4⟩
          have hP4 := (hP2.kept k4).drop
          clear hap k4 hP2 hr2 hX2 hb2 b0 b1 b2
          have hlz := (hP4).sy.len
          obtain ⟨zb, zd, z0, hzT, z1, z2⟩ := (hP4).m.cells
          have hzlt : r < (w4).drew.heap.size := World.block_lt_of_cell? _ _ z1
          have Z0 : (w4).drew.cell? ⟨r, 0, none⟩ = some (.slice zb (us).length zd) := z0
          have hPz := (hP4).kept (Kept.refl [] (w4)).drew
          have hU2 := units_same2 hPz.sy (.slice zb (us).length zd) (hzT.kept (Kept.refl [] (w4)).drew (by simp))
          clear z0 z1 z2 hzT
          go_wp2_with fail
          refine wp_region_held_drew (S := fun w' => w'.cell? ⟨r, 0, none⟩ = some (.slice zb (us).length zd)) (by kernel_rfl) Z0 (fun _ => ?_)
          refine wpAnyH_take (i := 0) (v := .pointer (some ⟨p, 0, none⟩)) rfl (by kernel_rfl) (by kernel_rfl) (by kernel_rfl) (fun _ _ _ h => h) (Or.inl ⟨by rfl, fun w hS => by have hS' : w.cell? ⟨r, 0, none⟩ = some (.slice zb (us).length zd) := hS; go_simp⟩) Z0 ?_
          go_simp
          refine wpAnyH_take (i := 1) (v := .bool false) rfl (by kernel_rfl) (by kernel_rfl) (by kernel_rfl) (fun _ _ _ h => h) (Or.inl ⟨by rfl, fun w hS => by have hS' : w.cell? ⟨r, 0, none⟩ = some (.slice zb (us).length zd) := hS; go_simp⟩) Z0 ?_
          go_simp
          refine wpAnyH_take (i := 2) (v := .bool false) rfl (by kernel_rfl) (by kernel_rfl) (by kernel_rfl) (fun _ _ _ h => h) (Or.inl ⟨by rfl, fun w hS => by have hS' : w.cell? ⟨r, 0, none⟩ = some (.slice zb (us).length zd) := hS; go_simp⟩) Z0 ?_
          go_simp
          refine wpAnyH_take (i := 3) (v := .int .i64 0) rfl (by kernel_rfl) (by kernel_rfl) (by kernel_rfl) (fun _ _ _ h => h) (Or.inl ⟨by rfl, fun w hS => by have hS' : w.cell? ⟨r, 0, none⟩ = some (.slice zb (us).length zd) := hS; go_simp⟩) Z0 ?_
          go_simp
          refine wpAnyH_take (i := 4) (v := .bool false) rfl (by kernel_rfl) (by kernel_rfl) (by kernel_rfl) (fun _ _ _ h => h) (Or.inl ⟨by rfl, fun w hS => by have hS' : w.cell? ⟨r, 0, none⟩ = some (.slice zb (us).length zd) := hS; go_simp⟩) Z0 ?_
          go_simp
          refine wpAnyH_take (i := 5) (v := .bool false) rfl (by kernel_rfl) (by kernel_rfl) (by kernel_rfl) (fun _ _ _ h => h) (Or.inl ⟨by rfl, fun w hS => by have hS' : w.cell? ⟨r, 0, none⟩ = some (.slice zb (us).length zd) := hS; go_simp⟩) Z0 ?_
          go_simp
          refine wpAnyH_take (i := 6) (v := .bool false) rfl (by kernel_rfl) (by kernel_rfl) (by kernel_rfl) (fun _ _ _ h => h) (Or.inl ⟨by rfl, fun w hS => by have hS' : w.cell? ⟨r, 0, none⟩ = some (.slice zb (us).length zd) := hS; go_simp⟩) Z0 ?_
          go_simp
          refine wpAnyH_take (i := 7) (v := .pointer (some ⟨p, 0, none⟩)) rfl (by kernel_rfl) (by kernel_rfl) (by kernel_rfl) (fun _ _ _ h => h) (Or.inl ⟨by rfl, fun w hS => by have hS' : w.cell? ⟨r, 0, none⟩ = some (.slice zb (us).length zd) := hS; go_simp⟩) Z0 ?_
          go_simp
          refine wpAnyH_take (i := 9) (v := .pointer (some ⟨r, 0, none⟩)) rfl (by kernel_rfl) (by kernel_rfl) (by kernel_rfl) (fun _ _ _ h => h) (Or.inl ⟨by rfl, fun w hS => by have hS' : w.cell? ⟨r, 0, none⟩ = some (.slice zb (us).length zd) := hS; go_simp⟩) Z0 ?_
          go_simp
          refine wpAnyH_take (i := 10) (v := .pointer (some ⟨r, 0, none⟩)) rfl (by kernel_rfl) (by kernel_rfl) (by kernel_rfl) (fun _ _ _ h => h) (Or.inl ⟨by rfl, fun w hS => by have hS' : w.cell? ⟨r, 0, none⟩ = some (.slice zb (us).length zd) := hS; go_simp⟩) Z0 ?_
          go_simp
          refine wpAnyH_take (i := 11) (v := .pointer (some ⟨r, 0, none⟩)) rfl (by kernel_rfl) (by kernel_rfl) (by kernel_rfl) (fun _ _ _ h => h) (Or.inl ⟨by rfl, fun w hS => by have hS' : w.cell? ⟨r, 0, none⟩ = some (.slice zb (us).length zd) := hS; go_simp⟩) Z0 ?_
          go_simp
          refine wpAnyH_take (i := 12) (v := .slice zb (us).length zd) rfl (by kernel_rfl) (by kernel_rfl) (by kernel_rfl) (fun _ _ _ h => h) (Or.inl ⟨by rfl, fun w hS => by have hS' : w.cell? ⟨r, 0, none⟩ = some (.slice zb (us).length zd) := hS; go_simp⟩) Z0 ?_
          go_simp
          refine wpAnyH_ready (rs := [8]) (by kernel_rfl) (by simp) (AllReadyH.cons rfl (fun K hK => ?_) AllReadyH.nil)
          go_simp
          refine (hU2).mono ?_
          rintro e wa ⟨ga, rfl, ka, hsm⟩
          have Za : wa.cell? ⟨r, 0, none⟩ = some (.slice zb (us).length zd) := by rw [ka.cell hzlt (by simp)]; exact Z0
          refine hK.out _ _ Za (fun _ => ?_)
          clear hK K
          go_simp
          refine wpAnyH_ready (rs := [13]) (by kernel_rfl) (by simp) (AllReadyH.cons rfl (fun K hK => ?_) AllReadyH.nil)
          go_simp
          refine (hsm).mono ?_
          rintro e wb ⟨rfl, kb⟩
          have Zb : wb.cell? ⟨r, 0, none⟩ = some (.slice zb (us).length zd) := by rw [kb.cell hzlt (by simp)]; exact Z0
          have hSb := hPz.sy.kept kb
          refine hK.out _ _ Zb (fun _ => ?_)
          clear hK K
          go_simp
          refine wpAnyH_take (i := 14) (v := .bool false) rfl (by kernel_rfl) (by kernel_rfl) (by kernel_rfl) (fun _ _ _ h => h) (Or.inl ⟨by rfl, fun w hS => by have hS' : w.cell? ⟨r, 0, none⟩ = some (.slice zb (us).length zd) := hS; go_simp⟩) Zb ?_
          go_simp
          refine wpAnyH_take (i := 15) (v := .bool false) rfl (by kernel_rfl) (by kernel_rfl) (by kernel_rfl) (fun _ _ _ h => h) (Or.inl ⟨by rfl, fun w hS => by have hS' : w.cell? ⟨r, 0, none⟩ = some (.slice zb (us).length zd) := hS; go_simp⟩) Zb ?_
          go_simp
          refine wpAnyH_take (i := 16) (v := .bool false) rfl (by kernel_rfl) (by kernel_rfl) (by kernel_rfl) (fun _ _ _ h => h) (Or.inl ⟨by rfl, fun w hS => by have hS' : w.cell? ⟨r, 0, none⟩ = some (.slice zb (us).length zd) := hS; go_simp⟩) Zb ?_
          go_simp
          refine wpAnyH_take (i := 17) (v := .pointer (some ⟨p, 0, none⟩)) rfl (by kernel_rfl) (by kernel_rfl) (by kernel_rfl) (fun _ _ _ h => h) (Or.inl ⟨by rfl, fun w hS => by have hS' : w.cell? ⟨r, 0, none⟩ = some (.slice zb (us).length zd) := hS; go_simp⟩) Zb ?_
          go_simp
          refine wpAnyH_take (i := 19) (v := .pointer (some ⟨r, 0, none⟩)) rfl (by kernel_rfl) (by kernel_rfl) (by kernel_rfl) (fun _ _ _ h => h) (Or.inl ⟨by rfl, fun w hS => by have hS' : w.cell? ⟨r, 0, none⟩ = some (.slice zb (us).length zd) := hS; go_simp⟩) Zb ?_
          go_simp
          refine wpAnyH_ready (rs := [18]) (by kernel_rfl) (by simp) (AllReadyH.cons rfl (fun K hK => ?_) AllReadyH.nil)
          go_simp
          refine (sy_room hSb).mono ?_
          rintro e wc ⟨rfl, kc⟩
          have kbc := kb.trans kc (by simp)
          have Zc : wc.cell? ⟨r, 0, none⟩ = some (.slice zb (us).length zd) := by rw [kbc.cell hzlt (by simp)]; exact Z0
          have hmc := hPz.m.kept kbc (by simp)
          refine hK.out _ _ Zc (fun _ => ?_)
          clear hK K
          go_simp
          refine wpAnyH_ready (rs := [20]) (by kernel_rfl) (by simp) (AllReadyH.cons rfl (fun K hK => ?_) AllReadyH.nil)
          go_simp
          refine (mroom_any hmc hlz.1 hlz.2.1 hlz.2.2.2 hlz.2.2.1).mono ?_
          rintro e wd ⟨rfl, rfl⟩
          refine hK.out _ _ Zc (fun _ => ?_)
          clear hK K
          go_simp
          refine wpAnyH_take (i := 21) (v := .bool false) rfl (by kernel_rfl) (by kernel_rfl) (by kernel_rfl) (fun _ _ _ h => h) (Or.inl ⟨by rfl, fun w hS => by have hS' : w.cell? ⟨r, 0, none⟩ = some (.slice zb (us).length zd) := hS; go_simp⟩) Zc ?_
          go_simp
          refine wpAnyH_take (i := 22) (v := .bool false) rfl (by kernel_rfl) (by kernel_rfl) (by kernel_rfl) (fun _ _ _ h => h) (Or.inl ⟨by rfl, fun w hS => by have hS' : w.cell? ⟨r, 0, none⟩ = some (.slice zb (us).length zd) := hS; go_simp⟩) Zc ?_
          go_simp
          refine wpAnyH_done (by kernel_rfl) ?_ _
          have hPy := Hid.mk (hPz.kept kbc)
          have hCy : Hid (Calm (s) (18 * (j + 1))) := ⟨hC.1, hC.2.1, by have := hC.2.2; omega⟩
          have hEy : Hid (ep ≤ 1 + 4 * (j + 1)) := by show _ ≤ _; omega
          clear hPz Z0 Za Zb Zc hU2 hsm ka kb kc kbc hSb hmc hzlt
          go_wp2_with fail
          exact ⟨⟨j + 1, p, s, ep, us, M, by go_num, by omega, rfl, rfl, hPy.out, hCy.out, hEy.out⟩, by simp [intOf]; omega⟩
      by_cases hk2 : kd = 2
      · skip
        subst hk2
        have hww : 0 ≤ IntKind.u64.wrap xn := by rw [IntKind.wrap_u64]; omega
        obtain ⟨f5, hf5⟩ : ∃ f5 : Nat, (IntKind.u64.wrap xn).tmod 5 = (f5 : Int) := ⟨((IntKind.u64.wrap xn).tmod 5).toNat, by rw [Int.tmod_eq_emod_of_nonneg hww]; omega⟩
        have hf55 : f5 < 5 := by rw [Int.tmod_eq_emod_of_nonneg hww] at hf5; omega
        have hws := sy_writes hP2.sy
        obtain ⟨za, zc, z0, -, z1, z2⟩ := hP2.m.cells
        clear z0 z1 hww
        by_cases hf0 : 0 < f5
        · skip
          have hfp : (0 : Int) < (f5 : Int) := by omega
          have hrs := sy_reset hP2.sy (ep + f5) (by omega) (by omega)
          rw [Int.natCast_add] at hrs
          go_wp2_with fail
          refine hws.mono ?_
          rintro e w3 ⟨rfl, rfl⟩
          clear hws
          go_wp2_with fail
          refine hrs.mono ?_
          rintro e w4 ⟨rfl, hS4, k4⟩
          have hm4 : IsM w4 M r us ct ep := by
            obtain ⟨S, k, hSx⟩ := k4
            exact hP2.m.kept k (fun x hx => hSx x (by simp [hx]))
          have hM0 := hP2.m0
          have hws4 := sy_writes hS4
          clear hrs k4 hP2 hr2 hX2 hb2 b0 b1 b2 z2
          go_wp2_with fail
          refine hws4.mono ?_
          rintro e w5 ⟨rfl, rfl⟩
          clear hws4
          obtain ⟨za, zc, z0, -, z1, z2⟩ := hm4.cells
          have y0 := hm4.free 0
          have y2 := hm4.free 2
          obtain ⟨hm5, k5⟩ := hm4.reset (ep + f5)
          have hrM : r ∈ M := by
            obtain ⟨v, h, _⟩ := hm4
            rw [h]
            simp
          have hP5 : Hid (Pl w ((w4.setCell ⟨r, 0, none⟩ (.slice none 0 0)).setCell ⟨r, 2, none⟩ (.int .u64 ((ep + f5 : Nat) : Int))) q p r s fr ct (ep + f5) [] false [r] []) :=
            ⟨hS4.turn2 k5 (fun x hx => by simp at hx; subst hx; simp [hrM]) (fun x hx => by simp at hx; subst hx; exact hM0 x hrM) (fun y hy => by simp at hy; subst hy; exact .inl (by simp [hrM])), hm5, fun x hx => by simp at hx; subst hx; exact hM0 x hrM, by simp⟩
          rw [Int.natCast_add] at hP5
          clear hS4 hm4 hm5 k5 z1 hM0 hrM
          go_wp2_with fail
          have hP9 := hP5.out
          obtain ⟨e9, he9⟩ : ∃ e9, Hid (ep + f5 = e9) := ⟨_, rfl⟩
          rw [he9.out] at hP9
          generalize (w4.setCell ⟨r, 0, none⟩ (.slice none 0 0)).setCell ⟨r, 2, none⟩ (.int .u64 ((ep : Int) + (f5 : Int))) = wz at hP9 ⊢
          clear hP5 z0 z2 y0 y2
          have hlz := (hP9).sy.len
          obtain ⟨zb, zd, z0, hzT, z1, z2⟩ := (hP9).m.cells
          have hzlt : r < (wz).drew.heap.size := World.block_lt_of_cell? _ _ z1
          have Z0 : (wz).drew.cell? ⟨r, 0, none⟩ = some (.slice zb (([] : List (List UInt8))).length zd) := z0
          have hPz := (hP9).kept (Kept.refl [] (wz)).drew
          have hU2 := units_same2 hPz.sy (.slice zb (([] : List (List UInt8))).length zd) (hzT.kept (Kept.refl [] (wz)).drew (by simp))
          clear z0 z1 z2 hzT
          go_wp2_with fail
          refine wp_region_held_drew (S := fun w' => w'.cell? ⟨r, 0, none⟩ = some (.slice zb (([] : List (List UInt8))).length zd)) (by kernel_rfl) Z0 (fun _ => ?_)
          refine wpAnyH_take (i := 0) (v := .pointer (some ⟨p, 0, none⟩)) rfl (by kernel_rfl) (by kernel_rfl) (by kernel_rfl) (fun _ _ _ h => h) (Or.inl ⟨by rfl, fun w hS => by have hS' : w.cell? ⟨r, 0, none⟩ = some (.slice zb (([] : List (List UInt8))).length zd) := hS; go_simp⟩) Z0 ?_
          go_simp
          refine wpAnyH_take (i := 1) (v := .bool false) rfl (by kernel_rfl) (by kernel_rfl) (by kernel_rfl) (fun _ _ _ h => h) (Or.inl ⟨by rfl, fun w hS => by have hS' : w.cell? ⟨r, 0, none⟩ = some (.slice zb (([] : List (List UInt8))).length zd) := hS; go_simp⟩) Z0 ?_
          go_simp
          refine wpAnyH_take (i := 2) (v := .bool false) rfl (by kernel_rfl) (by kernel_rfl) (by kernel_rfl) (fun _ _ _ h => h) (Or.inl ⟨by rfl, fun w hS => by have hS' : w.cell? ⟨r, 0, none⟩ = some (.slice zb (([] : List (List UInt8))).length zd) := hS; go_simp⟩) Z0 ?_
          go_simp
          refine wpAnyH_take (i := 3) (v := .int .i64 0) rfl (by kernel_rfl) (by kernel_rfl) (by kernel_rfl) (fun _ _ _ h => h) (Or.inl ⟨by rfl, fun w hS => by have hS' : w.cell? ⟨r, 0, none⟩ = some (.slice zb (([] : List (List UInt8))).length zd) := hS; go_simp⟩) Z0 ?_
          go_simp
          refine wpAnyH_take (i := 4) (v := .bool false) rfl (by kernel_rfl) (by kernel_rfl) (by kernel_rfl) (fun _ _ _ h => h) (Or.inl ⟨by rfl, fun w hS => by have hS' : w.cell? ⟨r, 0, none⟩ = some (.slice zb (([] : List (List UInt8))).length zd) := hS; go_simp⟩) Z0 ?_
          go_simp
          refine wpAnyH_take (i := 5) (v := .bool false) rfl (by kernel_rfl) (by kernel_rfl) (by kernel_rfl) (fun _ _ _ h => h) (Or.inl ⟨by rfl, fun w hS => by have hS' : w.cell? ⟨r, 0, none⟩ = some (.slice zb (([] : List (List UInt8))).length zd) := hS; go_simp⟩) Z0 ?_
          go_simp
          refine wpAnyH_take (i := 6) (v := .bool false) rfl (by kernel_rfl) (by kernel_rfl) (by kernel_rfl) (fun _ _ _ h => h) (Or.inl ⟨by rfl, fun w hS => by have hS' : w.cell? ⟨r, 0, none⟩ = some (.slice zb (([] : List (List UInt8))).length zd) := hS; go_simp⟩) Z0 ?_
          go_simp
          refine wpAnyH_take (i := 7) (v := .pointer (some ⟨p, 0, none⟩)) rfl (by kernel_rfl) (by kernel_rfl) (by kernel_rfl) (fun _ _ _ h => h) (Or.inl ⟨by rfl, fun w hS => by have hS' : w.cell? ⟨r, 0, none⟩ = some (.slice zb (([] : List (List UInt8))).length zd) := hS; go_simp⟩) Z0 ?_
          go_simp
          refine wpAnyH_take (i := 9) (v := .pointer (some ⟨r, 0, none⟩)) rfl (by kernel_rfl) (by kernel_rfl) (by kernel_rfl) (fun _ _ _ h => h) (Or.inl ⟨by rfl, fun w hS => by have hS' : w.cell? ⟨r, 0, none⟩ = some (.slice zb (([] : List (List UInt8))).length zd) := hS; go_simp⟩) Z0 ?_
          go_simp
          refine wpAnyH_take (i := 10) (v := .pointer (some ⟨r, 0, none⟩)) rfl (by kernel_rfl) (by kernel_rfl) (by kernel_rfl) (fun _ _ _ h => h) (Or.inl ⟨by rfl, fun w hS => by have hS' : w.cell? ⟨r, 0, none⟩ = some (.slice zb (([] : List (List UInt8))).length zd) := hS; go_simp⟩) Z0 ?_
          go_simp
          refine wpAnyH_take (i := 11) (v := .pointer (some ⟨r, 0, none⟩)) rfl (by kernel_rfl) (by kernel_rfl) (by kernel_rfl) (fun _ _ _ h => h) (Or.inl ⟨by rfl, fun w hS => by have hS' : w.cell? ⟨r, 0, none⟩ = some (.slice zb (([] : List (List UInt8))).length zd) := hS; go_simp⟩) Z0 ?_
          go_simp
          refine wpAnyH_take (i := 12) (v := .slice zb (([] : List (List UInt8))).length zd) rfl (by kernel_rfl) (by kernel_rfl) (by kernel_rfl) (fun _ _ _ h => h) (Or.inl ⟨by rfl, fun w hS => by have hS' : w.cell? ⟨r, 0, none⟩ = some (.slice zb (([] : List (List UInt8))).length zd) := hS; go_simp⟩) Z0 ?_
          go_simp
          refine wpAnyH_ready (rs := [8]) (by kernel_rfl) (by simp) (AllReadyH.cons rfl (fun K hK => ?_) AllReadyH.nil)
          go_simp
          refine (hU2).mono ?_
          rintro e wa ⟨ga, rfl, ka, hsm⟩
          have Za : wa.cell? ⟨r, 0, none⟩ = some (.slice zb (([] : List (List UInt8))).length zd) := by rw [ka.cell hzlt (by simp)]; exact Z0
          refine hK.out _ _ Za (fun _ => ?_)
          clear hK K
          go_simp
          refine wpAnyH_ready (rs := [13]) (by kernel_rfl) (by simp) (AllReadyH.cons rfl (fun K hK => ?_) AllReadyH.nil)
          go_simp
          refine (hsm).mono ?_
          rintro e wb ⟨rfl, kb⟩
          have Zb : wb.cell? ⟨r, 0, none⟩ = some (.slice zb (([] : List (List UInt8))).length zd) := by rw [kb.cell hzlt (by simp)]; exact Z0
          have hSb := hPz.sy.kept kb
          refine hK.out _ _ Zb (fun _ => ?_)
          clear hK K
          go_simp
          refine wpAnyH_take (i := 14) (v := .bool false) rfl (by kernel_rfl) (by kernel_rfl) (by kernel_rfl) (fun _ _ _ h => h) (Or.inl ⟨by rfl, fun w hS => by have hS' : w.cell? ⟨r, 0, none⟩ = some (.slice zb (([] : List (List UInt8))).length zd) := hS; go_simp⟩) Zb ?_
          go_simp
          refine wpAnyH_take (i := 15) (v := .bool false) rfl (by kernel_rfl) (by kernel_rfl) (by kernel_rfl) (fun _ _ _ h => h) (Or.inl ⟨by rfl, fun w hS => by have hS' : w.cell? ⟨r, 0, none⟩ = some (.slice zb (([] : List (List UInt8))).length zd) := hS; go_simp⟩) Zb ?_
          go_simp
          refine wpAnyH_take (i := 16) (v := .bool false) rfl (by kernel_rfl) (by kernel_rfl) (by kernel_rfl) (fun _ _ _ h => h) (Or.inl ⟨by rfl, fun w hS => by have hS' : w.cell? ⟨r, 0, none⟩ = some (.slice zb (([] : List (List UInt8))).length zd) := hS; go_simp⟩) Zb ?_
          go_simp
          refine wpAnyH_take (i := 17) (v := .pointer (some ⟨p, 0, none⟩)) rfl (by kernel_rfl) (by kernel_rfl) (by kernel_rfl) (fun _ _ _ h => h) (Or.inl ⟨by rfl, fun w hS => by have hS' : w.cell? ⟨r, 0, none⟩ = some (.slice zb (([] : List (List UInt8))).length zd) := hS; go_simp⟩) Zb ?_
          go_simp
          refine wpAnyH_take (i := 19) (v := .pointer (some ⟨r, 0, none⟩)) rfl (by kernel_rfl) (by kernel_rfl) (by kernel_rfl) (fun _ _ _ h => h) (Or.inl ⟨by rfl, fun w hS => by have hS' : w.cell? ⟨r, 0, none⟩ = some (.slice zb (([] : List (List UInt8))).length zd) := hS; go_simp⟩) Zb ?_
          go_simp
          refine wpAnyH_ready (rs := [18]) (by kernel_rfl) (by simp) (AllReadyH.cons rfl (fun K hK => ?_) AllReadyH.nil)
          go_simp
          refine (sy_room hSb).mono ?_
          rintro e wc ⟨rfl, kc⟩
          have kbc := kb.trans kc (by simp)
          have Zc : wc.cell? ⟨r, 0, none⟩ = some (.slice zb (([] : List (List UInt8))).length zd) := by rw [kbc.cell hzlt (by simp)]; exact Z0
          have hmc := hPz.m.kept kbc (by simp)
          refine hK.out _ _ Zc (fun _ => ?_)
          clear hK K
          go_simp
          refine wpAnyH_ready (rs := [20]) (by kernel_rfl) (by simp) (AllReadyH.cons rfl (fun K hK => ?_) AllReadyH.nil)
          go_simp
          refine (mroom_any hmc hlz.1 hlz.2.1 hlz.2.2.2 hlz.2.2.1).mono ?_
          rintro e wd ⟨rfl, rfl⟩
          refine hK.out _ _ Zc (fun _ => ?_)
          clear hK K
          go_simp
          refine wpAnyH_take (i := 21) (v := .bool false) rfl (by kernel_rfl) (by kernel_rfl) (by kernel_rfl) (fun _ _ _ h => h) (Or.inl ⟨by rfl, fun w hS => by have hS' : w.cell? ⟨r, 0, none⟩ = some (.slice zb (([] : List (List UInt8))).length zd) := hS; go_simp⟩) Zc ?_
          go_simp
          refine wpAnyH_take (i := 22) (v := .bool false) rfl (by kernel_rfl) (by kernel_rfl) (by kernel_rfl) (fun _ _ _ h => h) (Or.inl ⟨by rfl, fun w hS => by have hS' : w.cell? ⟨r, 0, none⟩ = some (.slice zb (([] : List (List UInt8))).length zd) := hS; go_simp⟩) Zc ?_
          go_simp
          refine wpAnyH_done (by kernel_rfl) ?_ _
          have hPy := Hid.mk (hPz.kept kbc)
          have hCy : Hid (Calm (s) (18 * (j + 1))) := ⟨hC.1, hC.2.1, by have := hC.2.2; omega⟩
          have hEy : Hid (e9 ≤ 1 + 4 * (j + 1)) := by show _ ≤ _; have := he9.out; omega
          clear hPz Z0 Za Zb Zc hU2 hsm ka kb kc kbc hSb hmc hzlt
          go_wp2_with fail
          exact ⟨⟨j + 1, p, s, e9, ([] : List (List UInt8)), [r], by go_num, by omega, rfl, rfl, hPy.out, hCy.out, hEy.out⟩, by simp [intOf]; omega⟩
        · skip
          have hf0 : f5 = 0 := by omega
          subst hf0
          rw [show ((0 : Nat) : Int) = 0 from rfl] at hf5
          have hrs := sy_reset_range hP2.sy ep (Nat.le_refl _)
          have hws2 := sy_writes hP2.sy
          go_wp2_with fail
          refine hws.mono ?_
          rintro e w3 ⟨rfl, rfl⟩
          clear hws
          go_wp2_with fail
          refine hrs.mono ?_
          rintro e w4 ⟨rfl, rfl⟩
          clear hrs b1
          go_wp2_with fail
          refine hws2.mono ?_
          rintro e w5 ⟨rfl, rfl⟩
          have hP4 := hP2.drop
          clear hws2 hP2 hr2 hX2 hb2 b0 b2 z2
          have hlz := (hP4).sy.len
          obtain ⟨zb, zd, z0, hzT, z1, z2⟩ := (hP4).m.cells
          have hzlt : r < (w2).drew.heap.size := World.block_lt_of_cell? _ _ z1
          have Z0 : (w2).drew.cell? ⟨r, 0, none⟩ = some (.slice zb (us).length zd) := z0
          have hPz := (hP4).kept (Kept.refl [] (w2)).drew
          have hU2 := units_same2 hPz.sy (.slice zb (us).length zd) (hzT.kept (Kept.refl [] (w2)).drew (by simp))
          clear z0 z1 z2 hzT
          go_wp2_with fail
          refine wp_region_held_drew (S := fun w' => w'.cell? ⟨r, 0, none⟩ = some (.slice zb (us).length zd)) (by kernel_rfl) Z0 (fun _ => ?_)
          refine wpAnyH_take (i := 0) (v := .pointer (some ⟨p, 0, none⟩)) rfl (by kernel_rfl) (by kernel_rfl) (by kernel_rfl) (fun _ _ _ h => h) (Or.inl ⟨by rfl, fun w hS => by have hS' : w.cell? ⟨r, 0, none⟩ = some (.slice zb (us).length zd) := hS; go_simp⟩) Z0 ?_
          go_simp
          refine wpAnyH_take (i := 1) (v := .bool false) rfl (by kernel_rfl) (by kernel_rfl) (by kernel_rfl) (fun _ _ _ h => h) (Or.inl ⟨by rfl, fun w hS => by have hS' : w.cell? ⟨r, 0, none⟩ = some (.slice zb (us).length zd) := hS; go_simp⟩) Z0 ?_
          go_simp
          refine wpAnyH_take (i := 2) (v := .bool false) rfl (by kernel_rfl) (by kernel_rfl) (by kernel_rfl) (fun _ _ _ h => h) (Or.inl ⟨by rfl, fun w hS => by have hS' : w.cell? ⟨r, 0, none⟩ = some (.slice zb (us).length zd) := hS; go_simp⟩) Z0 ?_
          go_simp
          refine wpAnyH_take (i := 3) (v := .int .i64 0) rfl (by kernel_rfl) (by kernel_rfl) (by kernel_rfl) (fun _ _ _ h => h) (Or.inl ⟨by rfl, fun w hS => by have hS' : w.cell? ⟨r, 0, none⟩ = some (.slice zb (us).length zd) := hS; go_simp⟩) Z0 ?_
          go_simp
          refine wpAnyH_take (i := 4) (v := .bool false) rfl (by kernel_rfl) (by kernel_rfl) (by kernel_rfl) (fun _ _ _ h => h) (Or.inl ⟨by rfl, fun w hS => by have hS' : w.cell? ⟨r, 0, none⟩ = some (.slice zb (us).length zd) := hS; go_simp⟩) Z0 ?_
          go_simp
          refine wpAnyH_take (i := 5) (v := .bool false) rfl (by kernel_rfl) (by kernel_rfl) (by kernel_rfl) (fun _ _ _ h => h) (Or.inl ⟨by rfl, fun w hS => by have hS' : w.cell? ⟨r, 0, none⟩ = some (.slice zb (us).length zd) := hS; go_simp⟩) Z0 ?_
          go_simp
          refine wpAnyH_take (i := 6) (v := .bool false) rfl (by kernel_rfl) (by kernel_rfl) (by kernel_rfl) (fun _ _ _ h => h) (Or.inl ⟨by rfl, fun w hS => by have hS' : w.cell? ⟨r, 0, none⟩ = some (.slice zb (us).length zd) := hS; go_simp⟩) Z0 ?_
          go_simp
          refine wpAnyH_take (i := 7) (v := .pointer (some ⟨p, 0, none⟩)) rfl (by kernel_rfl) (by kernel_rfl) (by kernel_rfl) (fun _ _ _ h => h) (Or.inl ⟨by rfl, fun w hS => by have hS' : w.cell? ⟨r, 0, none⟩ = some (.slice zb (us).length zd) := hS; go_simp⟩) Z0 ?_
          go_simp
          refine wpAnyH_take (i := 9) (v := .pointer (some ⟨r, 0, none⟩)) rfl (by kernel_rfl) (by kernel_rfl) (by kernel_rfl) (fun _ _ _ h => h) (Or.inl ⟨by rfl, fun w hS => by have hS' : w.cell? ⟨r, 0, none⟩ = some (.slice zb (us).length zd) := hS; go_simp⟩) Z0 ?_
          go_simp
          refine wpAnyH_take (i := 10) (v := .pointer (some ⟨r, 0, none⟩)) rfl (by kernel_rfl) (by kernel_rfl) (by kernel_rfl) (fun _ _ _ h => h) (Or.inl ⟨by rfl, fun w hS => by have hS' : w.cell? ⟨r, 0, none⟩ = some (.slice zb (us).length zd) := hS; go_simp⟩) Z0 ?_
          go_simp
          refine wpAnyH_take (i := 11) (v := .pointer (some ⟨r, 0, none⟩)) rfl (by kernel_rfl) (by kernel_rfl) (by kernel_rfl) (fun _ _ _ h => h) (Or.inl ⟨by rfl, fun w hS => by have hS' : w.cell? ⟨r, 0, none⟩ = some (.slice zb (us).length zd) := hS; go_simp⟩) Z0 ?_
          go_simp
          refine wpAnyH_take (i := 12) (v := .slice zb (us).length zd) rfl (by kernel_rfl) (by kernel_rfl) (by kernel_rfl) (fun _ _ _ h => h) (Or.inl ⟨by rfl, fun w hS => by have hS' : w.cell? ⟨r, 0, none⟩ = some (.slice zb (us).length zd) := hS; go_simp⟩) Z0 ?_
          go_simp
          refine wpAnyH_ready (rs := [8]) (by kernel_rfl) (by simp) (AllReadyH.cons rfl (fun K hK => ?_) AllReadyH.nil)
          go_simp
          refine (hU2).mono ?_
          rintro e wa ⟨ga, rfl, ka, hsm⟩
          have Za : wa.cell? ⟨r, 0, none⟩ = some (.slice zb (us).length zd) := by rw [ka.cell hzlt (by simp)]; exact Z0
          refine hK.out _ _ Za (fun _ => ?_)
          clear hK K
          go_simp
          refine wpAnyH_ready (rs := [13]) (by kernel_rfl) (by simp) (AllReadyH.cons rfl (fun K hK => ?_) AllReadyH.nil)
          go_simp
          refine (hsm).mono ?_
          rintro e wb ⟨rfl, kb⟩
          have Zb : wb.cell? ⟨r, 0, none⟩ = some (.slice zb (us).length zd) := by rw [kb.cell hzlt (by simp)]; exact Z0
          have hSb := hPz.sy.kept kb
          refine hK.out _ _ Zb (fun _ => ?_)
          clear hK K
          go_simp
          refine wpAnyH_take (i := 14) (v := .bool false) rfl (by kernel_rfl) (by kernel_rfl) (by kernel_rfl) (fun _ _ _ h => h) (Or.inl ⟨by rfl, fun w hS => by have hS' : w.cell? ⟨r, 0, none⟩ = some (.slice zb (us).length zd) := hS; go_simp⟩) Zb ?_
          go_simp
          refine wpAnyH_take (i := 15) (v := .bool false) rfl (by kernel_rfl) (by kernel_rfl) (by kernel_rfl) (fun _ _ _ h => h) (Or.inl ⟨by rfl, fun w hS => by have hS' : w.cell? ⟨r, 0, none⟩ = some (.slice zb (us).length zd) := hS; go_simp⟩) Zb ?_
          go_simp
          refine wpAnyH_take (i := 16) (v := .bool false) rfl (by kernel_rfl) (by kernel_rfl) (by kernel_rfl) (fun _ _ _ h => h) (Or.inl ⟨by rfl, fun w hS => by have hS' : w.cell? ⟨r, 0, none⟩ = some (.slice zb (us).length zd) := hS; go_simp⟩) Zb ?_
          go_simp
          refine wpAnyH_take (i := 17) (v := .pointer (some ⟨p, 0, none⟩)) rfl (by kernel_rfl) (by kernel_rfl) (by kernel_rfl) (fun _ _ _ h => h) (Or.inl ⟨by rfl, fun w hS => by have hS' : w.cell? ⟨r, 0, none⟩ = some (.slice zb (us).length zd) := hS; go_simp⟩) Zb ?_
          go_simp
          refine wpAnyH_take (i := 19) (v := .pointer (some ⟨r, 0, none⟩)) rfl (by kernel_rfl) (by kernel_rfl) (by kernel_rfl) (fun _ _ _ h => h) (Or.inl ⟨by rfl, fun w hS => by have hS' : w.cell? ⟨r, 0, none⟩ = some (.slice zb (us).length zd) := hS; go_simp⟩) Zb ?_
          go_simp
          refine wpAnyH_ready (rs := [18]) (by kernel_rfl) (by simp) (AllReadyH.cons rfl (fun K hK => ?_) AllReadyH.nil)
          go_simp
          refine (sy_room hSb).mono ?_
          rintro e wc ⟨rfl, kc⟩
          have kbc := kb.trans kc (by simp)
          have Zc : wc.cell? ⟨r, 0, none⟩ = some (.slice zb (us).length zd) := by rw [kbc.cell hzlt (by simp)]; exact Z0
          have hmc := hPz.m.kept kbc (by simp)
          refine hK.out _ _ Zc (fun _ => ?_)
          clear hK K
          go_simp
          refine wpAnyH_ready (rs := [20]) (by kernel_rfl) (by simp) (AllReadyH.cons rfl (fun K hK => ?_) AllReadyH.nil)
          go_simp
          refine (mroom_any hmc hlz.1 hlz.2.1 hlz.2.2.2 hlz.2.2.1).mono ?_
          rintro e wd ⟨rfl, rfl⟩
          refine hK.out _ _ Zc (fun _ => ?_)
          clear hK K
          go_simp
          refine wpAnyH_take (i := 21) (v := .bool false) rfl (by kernel_rfl) (by kernel_rfl) (by kernel_rfl) (fun _ _ _ h => h) (Or.inl ⟨by rfl, fun w hS => by have hS' : w.cell? ⟨r, 0, none⟩ = some (.slice zb (us).length zd) := hS; go_simp⟩) Zc ?_
          go_simp
          refine wpAnyH_take (i := 22) (v := .bool false) rfl (by kernel_rfl) (by kernel_rfl) (by kernel_rfl) (fun _ _ _ h => h) (Or.inl ⟨by rfl, fun w hS => by have hS' : w.cell? ⟨r, 0, none⟩ = some (.slice zb (us).length zd) := hS; go_simp⟩) Zc ?_
          go_simp
          refine wpAnyH_done (by kernel_rfl) ?_ _
          have hPy := Hid.mk (hPz.kept kbc)
          have hCy : Hid (Calm (s) (18 * (j + 1))) := ⟨hC.1, hC.2.1, by have := hC.2.2; omega⟩
          have hEy : Hid (ep ≤ 1 + 4 * (j + 1)) := by show _ ≤ _; omega
          clear hPz Z0 Za Zb Zc hU2 hsm ka kb kc kbc hSb hmc hzlt
          go_wp2_with fail
          exact ⟨⟨j + 1, p, s, ep, us, M, by go_num, by omega, rfl, rfl, hPy.out, hCy.out, hEy.out⟩, by simp [intOf]; omega⟩
      by_cases hk3 : kd = 3
      · skip
        subst hk3
        have hfw : IntKind.i64.wrap (fr : Int) = (fr : Int) := by rw [IntKind.wrap_i64]; omega
        have hop := sy_open (hP2.sy.kept (Kept.refl [] w2).drew) ep us hP2.sy.ar hC.1 (fun y hy => hP2.lt y hy)
        obtain ⟨za, zc, z0, -, z1, z2⟩ := hP2.m.cells
        have SS : w2.drew.cell? ⟨r, 1, none⟩ = some (.int .i64 (ct : Int)) ∧ w2.drew.cell? ⟨r, 2, none⟩ = some (.int .u64 (ep : Int)) := ⟨z1, z2⟩
        have hrlt : r < w2.heap.size := World.block_lt_of_cell? _ _ z1
        clear z0
        go_wp2_with fail
        refine wp_region_held_drew (S := fun w' => w'.cell? ⟨r, 1, none⟩ = some (.int .i64 (ct : Int)) ∧ w'.cell? ⟨r, 2, none⟩ = some (.int .u64 (ep : Int))) (by kernel_rfl) SS (fun _ => ?_)
        refine wpAnyH_take (i := 0) (v := .pointer (some ⟨q, 0, none⟩)) rfl (by kernel_rfl) (by kernel_rfl) (by kernel_rfl) (fun _ _ _ h => h) (Or.inl ⟨by rfl, fun w hS => by have hS' : w.cell? ⟨r, 1, none⟩ = some (.int .i64 (ct : Int)) ∧ w.cell? ⟨r, 2, none⟩ = some (.int .u64 (ep : Int)) := hS; go_simp⟩) SS ?_
        go_simp
        refine wpAnyH_take (i := 1) (v := .int .u8 (fr : Int)) rfl (by kernel_rfl) (by kernel_rfl) (by kernel_rfl) (fun _ _ _ h => h) (Or.inl ⟨by rfl, fun w hS => by have hS' : w.cell? ⟨r, 1, none⟩ = some (.int .i64 (ct : Int)) ∧ w.cell? ⟨r, 2, none⟩ = some (.int .u64 (ep : Int)) := hS; go_simp⟩) SS ?_
        go_simp
        refine wpAnyH_take (i := 2) (v := .int .i64 (fr : Int)) rfl (by kernel_rfl) (by kernel_rfl) (by kernel_rfl) (fun _ _ _ h => h) (Or.inl ⟨by rfl, fun w hS => by have hS' : w.cell? ⟨r, 1, none⟩ = some (.int .i64 (ct : Int)) ∧ w.cell? ⟨r, 2, none⟩ = some (.int .u64 (ep : Int)) := hS; go_simp⟩) SS ?_
        go_simp
        refine wpAnyH_take (i := 3) (v := .pointer (some ⟨r, 0, none⟩)) rfl (by kernel_rfl) (by kernel_rfl) (by kernel_rfl) (fun _ _ _ h => h) (Or.inl ⟨by rfl, fun w hS => by have hS' : w.cell? ⟨r, 1, none⟩ = some (.int .i64 (ct : Int)) ∧ w.cell? ⟨r, 2, none⟩ = some (.int .u64 (ep : Int)) := hS; go_simp⟩) SS ?_
        go_simp
        refine wpAnyH_take (i := 4) (v := .pointer (some ⟨r, 0, none⟩)) rfl (by kernel_rfl) (by kernel_rfl) (by kernel_rfl) (fun _ _ _ h => h) (Or.inl ⟨by rfl, fun w hS => by have hS' : w.cell? ⟨r, 1, none⟩ = some (.int .i64 (ct : Int)) ∧ w.cell? ⟨r, 2, none⟩ = some (.int .u64 (ep : Int)) := hS; go_simp⟩) SS ?_
        go_simp
        refine wpAnyH_take (i := 5) (v := .pointer (some ⟨r, 1, none⟩)) rfl (by kernel_rfl) (by kernel_rfl) (by kernel_rfl) (fun _ _ _ h => h) (Or.inl ⟨by rfl, fun w hS => by have hS' : w.cell? ⟨r, 1, none⟩ = some (.int .i64 (ct : Int)) ∧ w.cell? ⟨r, 2, none⟩ = some (.int .u64 (ep : Int)) := hS; go_simp⟩) SS ?_
        go_simp
        refine wpAnyH_take (i := 6) (v := .int .i64 (ct : Int)) rfl (by kernel_rfl) (by kernel_rfl) (by kernel_rfl) (fun _ _ _ h => h) (Or.inl ⟨by rfl, fun w hS => by have hS' : w.cell? ⟨r, 1, none⟩ = some (.int .i64 (ct : Int)) ∧ w.cell? ⟨r, 2, none⟩ = some (.int .u64 (ep : Int)) := hS; obtain ⟨hS1', hS2'⟩ := hS'; go_simp⟩) SS ?_
        go_simp
        refine wpAnyH_take (i := 7) (v := .pointer (some ⟨r, 0, none⟩)) rfl (by kernel_rfl) (by kernel_rfl) (by kernel_rfl) (fun _ _ _ h => h) (Or.inl ⟨by rfl, fun w hS => by have hS' : w.cell? ⟨r, 1, none⟩ = some (.int .i64 (ct : Int)) ∧ w.cell? ⟨r, 2, none⟩ = some (.int .u64 (ep : Int)) := hS; go_simp⟩) SS ?_
        go_simp
        refine wpAnyH_take (i := 8) (v := .pointer (some ⟨r, 0, none⟩)) rfl (by kernel_rfl) (by kernel_rfl) (by kernel_rfl) (fun _ _ _ h => h) (Or.inl ⟨by rfl, fun w hS => by have hS' : w.cell? ⟨r, 1, none⟩ = some (.int .i64 (ct : Int)) ∧ w.cell? ⟨r, 2, none⟩ = some (.int .u64 (ep : Int)) := hS; go_simp⟩) SS ?_
        go_simp
        refine wpAnyH_take (i := 9) (v := .pointer (some ⟨r, 2, none⟩)) rfl (by kernel_rfl) (by kernel_rfl) (by kernel_rfl) (fun _ _ _ h => h) (Or.inl ⟨by rfl, fun w hS => by have hS' : w.cell? ⟨r, 1, none⟩ = some (.int .i64 (ct : Int)) ∧ w.cell? ⟨r, 2, none⟩ = some (.int .u64 (ep : Int)) := hS; go_simp⟩) SS ?_
        go_simp
        refine wpAnyH_take (i := 10) (v := .int .u64 (ep : Int)) rfl (by kernel_rfl) (by kernel_rfl) (by kernel_rfl) (fun _ _ _ h => h) (Or.inl ⟨by rfl, fun w hS => by have hS' : w.cell? ⟨r, 1, none⟩ = some (.int .i64 (ct : Int)) ∧ w.cell? ⟨r, 2, none⟩ = some (.int .u64 (ep : Int)) := hS; obtain ⟨hS1', hS2'⟩ := hS'; go_simp⟩) SS ?_
        go_simp
        refine wpAnyH_ready (rs := [11]) (by kernel_rfl) (by simp) (AllReadyH.cons rfl (fun K hK => ?_) AllReadyH.nil)
        go_simp
        refine (hop).mono ?_
        rintro e w6 ⟨p6, rfl, hS6, k6⟩
        have S1 : w6.cell? ⟨r, 1, none⟩ = some (.int .i64 (ct : Int)) ∧ w6.cell? ⟨r, 2, none⟩ = some (.int .u64 (ep : Int)) := ⟨by rw [k6.cell hrlt (by simp)]; exact SS.1, by rw [k6.cell hrlt (by simp)]; exact SS.2⟩
        refine hK.out _ _ S1 (fun _ => ?_)
        clear hK K
        go_simp
        refine wpAnyH_take (i := 12) (v := .tuple #[.pointer (some ⟨p6, 0, none⟩), .int .i64 0]) rfl (by kernel_rfl) (by kernel_rfl) (by kernel_rfl) (fun _ _ _ h => h) (Or.inl ⟨by rfl, fun w hS => by have hS' : w.cell? ⟨r, 1, none⟩ = some (.int .i64 (ct : Int)) ∧ w.cell? ⟨r, 2, none⟩ = some (.int .u64 (ep : Int)) := hS; go_simp⟩) S1 ?_
        go_simp
        refine wpAnyH_take (i := 13) (v := .pointer (some ⟨p6, 0, none⟩)) rfl (by kernel_rfl) (by kernel_rfl) (by kernel_rfl) (fun _ _ _ h => h) (Or.inl ⟨by rfl, fun w hS => by have hS' : w.cell? ⟨r, 1, none⟩ = some (.int .i64 (ct : Int)) ∧ w.cell? ⟨r, 2, none⟩ = some (.int .u64 (ep : Int)) := hS; go_simp⟩) S1 ?_
        go_simp
        refine wpAnyH_take (i := 14) (v := .int .i64 0) rfl (by kernel_rfl) (by kernel_rfl) (by kernel_rfl) (fun _ _ _ h => h) (Or.inl ⟨by rfl, fun w hS => by have hS' : w.cell? ⟨r, 1, none⟩ = some (.int .i64 (ct : Int)) ∧ w.cell? ⟨r, 2, none⟩ = some (.int .u64 (ep : Int)) := hS; go_simp⟩) S1 ?_
        go_simp
        refine wpAnyH_take (i := 15) (v := .pointer (some ⟨p6, 0, none⟩)) rfl (by kernel_rfl) (by kernel_rfl) (by kernel_rfl) (fun _ _ _ h => h) (Or.inl ⟨by rfl, fun w hS => by have hS' : w.cell? ⟨r, 1, none⟩ = some (.int .i64 (ct : Int)) ∧ w.cell? ⟨r, 2, none⟩ = some (.int .u64 (ep : Int)) := hS; go_simp⟩) S1 ?_
        go_simp
        refine wpAnyH_take (i := 16) (v := .int .i64 0) rfl (by kernel_rfl) (by kernel_rfl) (by kernel_rfl) (fun _ _ _ h => h) (Or.inl ⟨by rfl, fun w hS => by have hS' : w.cell? ⟨r, 1, none⟩ = some (.int .i64 (ct : Int)) ∧ w.cell? ⟨r, 2, none⟩ = some (.int .u64 (ep : Int)) := hS; go_simp⟩) S1 ?_
        go_simp
        refine wpAnyH_done (by kernel_rfl) ?_ _
        have k56 : Kept [] w2 w6 := ((Kept.refl [] w2).drew).trans k6 (by simp)
        have hP6 := (hP2.keptX hS6 (KX.of k56)).drop
        clear SS S1 hop k6 hS6 z1 z2 hP2 hr2 hX2 hb2 b0 b1 b2 k56
        have hlz := (hP6).sy.len
        obtain ⟨zb, zd, z0, hzT, z1, z2⟩ := (hP6).m.cells
        have hzlt : r < (w6).drew.heap.size := World.block_lt_of_cell? _ _ z1
        have Z0 : (w6).drew.cell? ⟨r, 0, none⟩ = some (.slice zb (us).length zd) := z0
        have hPz := (hP6).kept (Kept.refl [] (w6)).drew
        have hU2 := units_same2 hPz.sy (.slice zb (us).length zd) (hzT.kept (Kept.refl [] (w6)).drew (by simp))
        clear z0 z1 z2 hzT
        go_wp2_with fail
        refine wp_region_held_drew (S := fun w' => w'.cell? ⟨r, 0, none⟩ = some (.slice zb (us).length zd)) (by kernel_rfl) Z0 (fun _ => ?_)
        refine wpAnyH_take (i := 0) (v := .pointer (some ⟨p6, 0, none⟩)) rfl (by kernel_rfl) (by kernel_rfl) (by kernel_rfl) (fun _ _ _ h => h) (Or.inl ⟨by rfl, fun w hS => by have hS' : w.cell? ⟨r, 0, none⟩ = some (.slice zb (us).length zd) := hS; go_simp⟩) Z0 ?_
        go_simp
        refine wpAnyH_take (i := 1) (v := .bool false) rfl (by kernel_rfl) (by kernel_rfl) (by kernel_rfl) (fun _ _ _ h => h) (Or.inl ⟨by rfl, fun w hS => by have hS' : w.cell? ⟨r, 0, none⟩ = some (.slice zb (us).length zd) := hS; go_simp⟩) Z0 ?_
        go_simp
        refine wpAnyH_take (i := 2) (v := .bool false) rfl (by kernel_rfl) (by kernel_rfl) (by kernel_rfl) (fun _ _ _ h => h) (Or.inl ⟨by rfl, fun w hS => by have hS' : w.cell? ⟨r, 0, none⟩ = some (.slice zb (us).length zd) := hS; go_simp⟩) Z0 ?_
        go_simp
        refine wpAnyH_take (i := 3) (v := .int .i64 0) rfl (by kernel_rfl) (by kernel_rfl) (by kernel_rfl) (fun _ _ _ h => h) (Or.inl ⟨by rfl, fun w hS => by have hS' : w.cell? ⟨r, 0, none⟩ = some (.slice zb (us).length zd) := hS; go_simp⟩) Z0 ?_
        go_simp
        refine wpAnyH_take (i := 4) (v := .bool false) rfl (by kernel_rfl) (by kernel_rfl) (by kernel_rfl) (fun _ _ _ h => h) (Or.inl ⟨by rfl, fun w hS => by have hS' : w.cell? ⟨r, 0, none⟩ = some (.slice zb (us).length zd) := hS; go_simp⟩) Z0 ?_
        go_simp
        refine wpAnyH_take (i := 5) (v := .bool false) rfl (by kernel_rfl) (by kernel_rfl) (by kernel_rfl) (fun _ _ _ h => h) (Or.inl ⟨by rfl, fun w hS => by have hS' : w.cell? ⟨r, 0, none⟩ = some (.slice zb (us).length zd) := hS; go_simp⟩) Z0 ?_
        go_simp
        refine wpAnyH_take (i := 6) (v := .bool false) rfl (by kernel_rfl) (by kernel_rfl) (by kernel_rfl) (fun _ _ _ h => h) (Or.inl ⟨by rfl, fun w hS => by have hS' : w.cell? ⟨r, 0, none⟩ = some (.slice zb (us).length zd) := hS; go_simp⟩) Z0 ?_
        go_simp
        refine wpAnyH_take (i := 7) (v := .pointer (some ⟨p6, 0, none⟩)) rfl (by kernel_rfl) (by kernel_rfl) (by kernel_rfl) (fun _ _ _ h => h) (Or.inl ⟨by rfl, fun w hS => by have hS' : w.cell? ⟨r, 0, none⟩ = some (.slice zb (us).length zd) := hS; go_simp⟩) Z0 ?_
        go_simp
        refine wpAnyH_take (i := 9) (v := .pointer (some ⟨r, 0, none⟩)) rfl (by kernel_rfl) (by kernel_rfl) (by kernel_rfl) (fun _ _ _ h => h) (Or.inl ⟨by rfl, fun w hS => by have hS' : w.cell? ⟨r, 0, none⟩ = some (.slice zb (us).length zd) := hS; go_simp⟩) Z0 ?_
        go_simp
        refine wpAnyH_take (i := 10) (v := .pointer (some ⟨r, 0, none⟩)) rfl (by kernel_rfl) (by kernel_rfl) (by kernel_rfl) (fun _ _ _ h => h) (Or.inl ⟨by rfl, fun w hS => by have hS' : w.cell? ⟨r, 0, none⟩ = some (.slice zb (us).length zd) := hS; go_simp⟩) Z0 ?_
        go_simp
        refine wpAnyH_take (i := 11) (v := .pointer (some ⟨r, 0, none⟩)) rfl (by kernel_rfl) (by kernel_rfl) (by kernel_rfl) (fun _ _ _ h => h) (Or.inl ⟨by rfl, fun w hS => by have hS' : w.cell? ⟨r, 0, none⟩ = some (.slice zb (us).length zd) := hS; go_simp⟩) Z0 ?_
        go_simp
        refine wpAnyH_take (i := 12) (v := .slice zb (us).length zd) rfl (by kernel_rfl) (by kernel_rfl) (by kernel_rfl) (fun _ _ _ h => h) (Or.inl ⟨by rfl, fun w hS => by have hS' : w.cell? ⟨r, 0, none⟩ = some (.slice zb (us).length zd) := hS; go_simp⟩) Z0 ?_
        go_simp
        refine wpAnyH_ready (rs := [8]) (by kernel_rfl) (by simp) (AllReadyH.cons rfl (fun K hK => ?_) AllReadyH.nil)
        go_simp
        refine (hU2).mono ?_
        rintro e wa ⟨ga, rfl, ka, hsm⟩
        have Za : wa.cell? ⟨r, 0, none⟩ = some (.slice zb (us).length zd) := by rw [ka.cell hzlt (by simp)]; exact Z0
        refine hK.out _ _ Za (fun _ => ?_)
        clear hK K
        go_simp
        refine wpAnyH_ready (rs := [13]) (by kernel_rfl) (by simp) (AllReadyH.cons rfl (fun K hK => ?_) AllReadyH.nil)
        go_simp
        refine (hsm).mono ?_
        rintro e wb ⟨rfl, kb⟩
        have Zb : wb.cell? ⟨r, 0, none⟩ = some (.slice zb (us).length zd) := by rw [kb.cell hzlt (by simp)]; exact Z0
        have hSb := hPz.sy.kept kb
        refine hK.out _ _ Zb (fun _ => ?_)
        clear hK K
        go_simp
        refine wpAnyH_take (i := 14) (v := .bool false) rfl (by kernel_rfl) (by kernel_rfl) (by kernel_rfl) (fun _ _ _ h => h) (Or.inl ⟨by rfl, fun w hS => by have hS' : w.cell? ⟨r, 0, none⟩ = some (.slice zb (us).length zd) := hS; go_simp⟩) Zb ?_
        go_simp
        refine wpAnyH_take (i := 15) (v := .bool false) rfl (by kernel_rfl) (by kernel_rfl) (by kernel_rfl) (fun _ _ _ h => h) (Or.inl ⟨by rfl, fun w hS => by have hS' : w.cell? ⟨r, 0, none⟩ = some (.slice zb (us).length zd) := hS; go_simp⟩) Zb ?_
        go_simp
        refine wpAnyH_take (i := 16) (v := .bool false) rfl (by kernel_rfl) (by kernel_rfl) (by kernel_rfl) (fun _ _ _ h => h) (Or.inl ⟨by rfl, fun w hS => by have hS' : w.cell? ⟨r, 0, none⟩ = some (.slice zb (us).length zd) := hS; go_simp⟩) Zb ?_
        go_simp
        refine wpAnyH_take (i := 17) (v := .pointer (some ⟨p6, 0, none⟩)) rfl (by kernel_rfl) (by kernel_rfl) (by kernel_rfl) (fun _ _ _ h => h) (Or.inl ⟨by rfl, fun w hS => by have hS' : w.cell? ⟨r, 0, none⟩ = some (.slice zb (us).length zd) := hS; go_simp⟩) Zb ?_
        go_simp
        refine wpAnyH_take (i := 19) (v := .pointer (some ⟨r, 0, none⟩)) rfl (by kernel_rfl) (by kernel_rfl) (by kernel_rfl) (fun _ _ _ h => h) (Or.inl ⟨by rfl, fun w hS => by have hS' : w.cell? ⟨r, 0, none⟩ = some (.slice zb (us).length zd) := hS; go_simp⟩) Zb ?_
        go_simp
        refine wpAnyH_ready (rs := [18]) (by kernel_rfl) (by simp) (AllReadyH.cons rfl (fun K hK => ?_) AllReadyH.nil)
        go_simp
        refine (sy_room hSb).mono ?_
        rintro e wc ⟨rfl, kc⟩
        have kbc := kb.trans kc (by simp)
        have Zc : wc.cell? ⟨r, 0, none⟩ = some (.slice zb (us).length zd) := by rw [kbc.cell hzlt (by simp)]; exact Z0
        have hmc := hPz.m.kept kbc (by simp)
        refine hK.out _ _ Zc (fun _ => ?_)
        clear hK K
        go_simp
        refine wpAnyH_ready (rs := [20]) (by kernel_rfl) (by simp) (AllReadyH.cons rfl (fun K hK => ?_) AllReadyH.nil)
        go_simp
        refine (mroom_any hmc hlz.1 hlz.2.1 hlz.2.2.2 hlz.2.2.1).mono ?_
        rintro e wd ⟨rfl, rfl⟩
        refine hK.out _ _ Zc (fun _ => ?_)
        clear hK K
        go_simp
        refine wpAnyH_take (i := 21) (v := .bool false) rfl (by kernel_rfl) (by kernel_rfl) (by kernel_rfl) (fun _ _ _ h => h) (Or.inl ⟨by rfl, fun w hS => by have hS' : w.cell? ⟨r, 0, none⟩ = some (.slice zb (us).length zd) := hS; go_simp⟩) Zc ?_
        go_simp
        refine wpAnyH_take (i := 22) (v := .bool false) rfl (by kernel_rfl) (by kernel_rfl) (by kernel_rfl) (fun _ _ _ h => h) (Or.inl ⟨by rfl, fun w hS => by have hS' : w.cell? ⟨r, 0, none⟩ = some (.slice zb (us).length zd) := hS; go_simp⟩) Zc ?_
        go_simp
        refine wpAnyH_done (by kernel_rfl) ?_ _
        have hPy := Hid.mk (hPz.kept kbc)
        have hCy : Hid (Calm (s) (18 * (j + 1))) := ⟨hC.1, hC.2.1, by have := hC.2.2; omega⟩
        have hEy : Hid (ep ≤ 1 + 4 * (j + 1)) := by show _ ≤ _; omega
        clear hPz Z0 Za Zb Zc hU2 hsm ka kb kc kbc hSb hmc hzlt
        go_wp2_with fail
        exact ⟨⟨j + 1, p6, s, ep, us, M, by go_num, by omega, rfl, rfl, hPy.out, hCy.out, hEy.out⟩, by simp [intOf]; omega⟩
      by_cases hk4 : kd = 4
      · skip
        subst hk4
        have hlo := lost_any hP2 hC (by omega) 4 xn (.slice ab x.b.length cb) ⟨_, _, _, rfl⟩ a2 nb c2 l hr2 hln.out hX2 hul (by omega)
        clear hP2 hr2 hX2
        go_wp2_with fail
        refine hlo.mono ?_
        rintro e w6 ⟨p6, rfl, s6, us6, M6, hP6, hC6⟩
        clear hlo hb2 b0 b1 b2
        have hlz := (hP6).sy.len
        obtain ⟨zb, zd, z0, hzT, z1, z2⟩ := (hP6).m.cells
        have hzlt : r < (w6).drew.heap.size := World.block_lt_of_cell? _ _ z1
        have Z0 : (w6).drew.cell? ⟨r, 0, none⟩ = some (.slice zb (us6).length zd) := z0
        have hPz := (hP6).kept (Kept.refl [] (w6)).drew
        have hU2 := units_same2 hPz.sy (.slice zb (us6).length zd) (hzT.kept (Kept.refl [] (w6)).drew (by simp))
        clear z0 z1 z2 hzT
        go_wp2_with fail
        refine wp_region_held_drew (S := fun w' => w'.cell? ⟨r, 0, none⟩ = some (.slice zb (us6).length zd)) (by kernel_rfl) Z0 (fun _ => ?_)
        refine wpAnyH_take (i := 0) (v := .pointer (some ⟨p6, 0, none⟩)) rfl (by kernel_rfl) (by kernel_rfl) (by kernel_rfl) (fun _ _ _ h => h) (Or.inl ⟨by rfl, fun w hS => by have hS' : w.cell? ⟨r, 0, none⟩ = some (.slice zb (us6).length zd) := hS; go_simp⟩) Z0 ?_
        go_simp
        refine wpAnyH_take (i := 1) (v := .bool false) rfl (by kernel_rfl) (by kernel_rfl) (by kernel_rfl) (fun _ _ _ h => h) (Or.inl ⟨by rfl, fun w hS => by have hS' : w.cell? ⟨r, 0, none⟩ = some (.slice zb (us6).length zd) := hS; go_simp⟩) Z0 ?_
        go_simp
        refine wpAnyH_take (i := 2) (v := .bool false) rfl (by kernel_rfl) (by kernel_rfl) (by kernel_rfl) (fun _ _ _ h => h) (Or.inl ⟨by rfl, fun w hS => by have hS' : w.cell? ⟨r, 0, none⟩ = some (.slice zb (us6).length zd) := hS; go_simp⟩) Z0 ?_
        go_simp
        refine wpAnyH_take (i := 3) (v := .int .i64 0) rfl (by kernel_rfl) (by kernel_rfl) (by kernel_rfl) (fun _ _ _ h => h) (Or.inl ⟨by rfl, fun w hS => by have hS' : w.cell? ⟨r, 0, none⟩ = some (.slice zb (us6).length zd) := hS; go_simp⟩) Z0 ?_
        go_simp
        refine wpAnyH_take (i := 4) (v := .bool false) rfl (by kernel_rfl) (by kernel_rfl) (by kernel_rfl) (fun _ _ _ h => h) (Or.inl ⟨by rfl, fun w hS => by have hS' : w.cell? ⟨r, 0, none⟩ = some (.slice zb (us6).length zd) := hS; go_simp⟩) Z0 ?_
        go_simp
        refine wpAnyH_take (i := 5) (v := .bool false) rfl (by kernel_rfl) (by kernel_rfl) (by kernel_rfl) (fun _ _ _ h => h) (Or.inl ⟨by rfl, fun w hS => by have hS' : w.cell? ⟨r, 0, none⟩ = some (.slice zb (us6).length zd) := hS; go_simp⟩) Z0 ?_
        go_simp
        refine wpAnyH_take (i := 6) (v := .bool false) rfl (by kernel_rfl) (by kernel_rfl) (by kernel_rfl) (fun _ _ _ h => h) (Or.inl ⟨by rfl, fun w hS => by have hS' : w.cell? ⟨r, 0, none⟩ = some (.slice zb (us6).length zd) := hS; go_simp⟩) Z0 ?_
        go_simp
        refine wpAnyH_take (i := 7) (v := .pointer (some ⟨p6, 0, none⟩)) rfl (by kernel_rfl) (by kernel_rfl) (by kernel_rfl) (fun _ _ _ h => h) (Or.inl ⟨by rfl, fun w hS => by have hS' : w.cell? ⟨r, 0, none⟩ = some (.slice zb (us6).length zd) := hS; go_simp⟩) Z0 ?_
        go_simp
        refine wpAnyH_take (i := 9) (v := .pointer (some ⟨r, 0, none⟩)) rfl (by kernel_rfl) (by kernel_rfl) (by kernel_rfl) (fun _ _ _ h => h) (Or.inl ⟨by rfl, fun w hS => by have hS' : w.cell? ⟨r, 0, none⟩ = some (.slice zb (us6).length zd) := hS; go_simp⟩) Z0 ?_
        go_simp
        refine wpAnyH_take (i := 10) (v := .pointer (some ⟨r, 0, none⟩)) rfl (by kernel_rfl) (by kernel_rfl) (by kernel_rfl) (fun _ _ _ h => h) (Or.inl ⟨by rfl, fun w hS => by have hS' : w.cell? ⟨r, 0, none⟩ = some (.slice zb (us6).length zd) := hS; go_simp⟩) Z0 ?_
        go_simp
        refine wpAnyH_take (i := 11) (v := .pointer (some ⟨r, 0, none⟩)) rfl (by kernel_rfl) (by kernel_rfl) (by kernel_rfl) (fun _ _ _ h => h) (Or.inl ⟨by rfl, fun w hS => by have hS' : w.cell? ⟨r, 0, none⟩ = some (.slice zb (us6).length zd) := hS; go_simp⟩) Z0 ?_
        go_simp
        refine wpAnyH_take (i := 12) (v := .slice zb (us6).length zd) rfl (by kernel_rfl) (by kernel_rfl) (by kernel_rfl) (fun _ _ _ h => h) (Or.inl ⟨by rfl, fun w hS => by have hS' : w.cell? ⟨r, 0, none⟩ = some (.slice zb (us6).length zd) := hS; go_simp⟩) Z0 ?_
        go_simp
        refine wpAnyH_ready (rs := [8]) (by kernel_rfl) (by simp) (AllReadyH.cons rfl (fun K hK => ?_) AllReadyH.nil)
        go_simp
        refine (hU2).mono ?_
        rintro e wa ⟨ga, rfl, ka, hsm⟩
        have Za : wa.cell? ⟨r, 0, none⟩ = some (.slice zb (us6).length zd) := by rw [ka.cell hzlt (by simp)]; exact Z0
        refine hK.out _ _ Za (fun _ => ?_)
        clear hK K
        go_simp
        refine wpAnyH_ready (rs := [13]) (by kernel_rfl) (by simp) (AllReadyH.cons rfl (fun K hK => ?_) AllReadyH.nil)
        go_simp
        refine (hsm).mono ?_
        rintro e wb ⟨rfl, kb⟩
        have Zb : wb.cell? ⟨r, 0, none⟩ = some (.slice zb (us6).length zd) := by rw [kb.cell hzlt (by simp)]; exact Z0
        have hSb := hPz.sy.kept kb
        refine hK.out _ _ Zb (fun _ => ?_)
        clear hK K
        go_simp
        refine wpAnyH_take (i := 14) (v := .bool false) rfl (by kernel_rfl) (by kernel_rfl) (by kernel_rfl) (fun _ _ _ h => h) (Or.inl ⟨by rfl, fun w hS => by have hS' : w.cell? ⟨r, 0, none⟩ = some (.slice zb (us6).length zd) := hS; go_simp⟩) Zb ?_
        go_simp
        refine wpAnyH_take (i := 15) (v := .bool false) rfl (by kernel_rfl) (by kernel_rfl) (by kernel_rfl) (fun _ _ _ h => h) (Or.inl ⟨by rfl, fun w hS => by have hS' : w.cell? ⟨r, 0, none⟩ = some (.slice zb (us6).length zd) := hS; go_simp⟩) Zb ?_
        go_simp
        refine wpAnyH_take (i := 16) (v := .bool false) rfl (by kernel_rfl) (by kernel_rfl) (by kernel_rfl) (fun _ _ _ h => h) (Or.inl ⟨by rfl, fun w hS => by have hS' : w.cell? ⟨r, 0, none⟩ = some (.slice zb (us6).length zd) := hS; go_simp⟩) Zb ?_
        go_simp
        refine wpAnyH_take (i := 17) (v := .pointer (some ⟨p6, 0, none⟩)) rfl (by kernel_rfl) (by kernel_rfl) (by kernel_rfl) (fun _ _ _ h => h) (Or.inl ⟨by rfl, fun w hS => by have hS' : w.cell? ⟨r, 0, none⟩ = some (.slice zb (us6).length zd) := hS; go_simp⟩) Zb ?_
        go_simp
        refine wpAnyH_take (i := 19) (v := .pointer (some ⟨r, 0, none⟩)) rfl (by kernel_rfl) (by kernel_rfl) (by kernel_rfl) (fun _ _ _ h => h) (Or.inl ⟨by rfl, fun w hS => by have hS' : w.cell? ⟨r, 0, none⟩ = some (.slice zb (us6).length zd) := hS; go_simp⟩) Zb ?_
        go_simp
        refine wpAnyH_ready (rs := [18]) (by kernel_rfl) (by simp) (AllReadyH.cons rfl (fun K hK => ?_) AllReadyH.nil)
        go_simp
        refine (sy_room hSb).mono ?_
        rintro e wc ⟨rfl, kc⟩
        have kbc := kb.trans kc (by simp)
        have Zc : wc.cell? ⟨r, 0, none⟩ = some (.slice zb (us6).length zd) := by rw [kbc.cell hzlt (by simp)]; exact Z0
        have hmc := hPz.m.kept kbc (by simp)
        refine hK.out _ _ Zc (fun _ => ?_)
        clear hK K
        go_simp
        refine wpAnyH_ready (rs := [20]) (by kernel_rfl) (by simp) (AllReadyH.cons rfl (fun K hK => ?_) AllReadyH.nil)
        go_simp
        refine (mroom_any hmc hlz.1 hlz.2.1 hlz.2.2.2 hlz.2.2.1).mono ?_
        rintro e wd ⟨rfl, rfl⟩
        refine hK.out _ _ Zc (fun _ => ?_)
        clear hK K
        go_simp
        refine wpAnyH_take (i := 21) (v := .bool false) rfl (by kernel_rfl) (by kernel_rfl) (by kernel_rfl) (fun _ _ _ h => h) (Or.inl ⟨by rfl, fun w hS => by have hS' : w.cell? ⟨r, 0, none⟩ = some (.slice zb (us6).length zd) := hS; go_simp⟩) Zc ?_
        go_simp
        refine wpAnyH_take (i := 22) (v := .bool false) rfl (by kernel_rfl) (by kernel_rfl) (by kernel_rfl) (fun _ _ _ h => h) (Or.inl ⟨by rfl, fun w hS => by have hS' : w.cell? ⟨r, 0, none⟩ = some (.slice zb (us6).length zd) := hS; go_simp⟩) Zc ?_
        go_simp
        refine wpAnyH_done (by kernel_rfl) ?_ _
        have hPy := Hid.mk (hPz.kept kbc)
        have hCy : Hid (Calm (s6) (18 * (j + 1))) := by show Calm _ _; rw [Nat.mul_add]; exact hC6
        have hEy : Hid (ep ≤ 1 + 4 * (j + 1)) := by show _ ≤ _; omega
        clear hPz Z0 Za Zb Zc hU2 hsm ka kb kc kbc hSb hmc hzlt
        go_wp2_with fail
        exact ⟨⟨j + 1, p6, s6, ep, us6, M6, by go_num, by omega, rfl, rfl, hPy.out, hCy.out, hEy.out⟩, by simp [intOf]; omega⟩
      have q1 : (kd == 1) = false := by simpa using hk1
      have q2 : (kd == 2) = false := by simpa using hk2
      have q3 : (kd == 3) = false := by simpa using hk3
      have q4 : (kd == 4) = false := by simpa using hk4
      have hP3 := hP2.drop
      clear hP2 hr2 hX2 hk1 hk2 hk3 hk4
      have hlz := (hP3).sy.len
      obtain ⟨zb, zd, z0, hzT, z1, z2⟩ := (hP3).m.cells
      have hzlt : r < (w2).drew.heap.size := World.block_lt_of_cell? _ _ z1
      have Z0 : (w2).drew.cell? ⟨r, 0, none⟩ = some (.slice zb (us).length zd) := z0
      have hPz := (hP3).kept (Kept.refl [] (w2)).drew
      have hU2 := units_same2 hPz.sy (.slice zb (us).length zd) (hzT.kept (Kept.refl [] (w2)).drew (by simp))
      clear z0 z1 z2 hzT
      go_wp2_with fail
      refine wp_region_held_drew (S := fun w' => w'.cell? ⟨r, 0, none⟩ = some (.slice zb (us).length zd)) (by kernel_rfl) Z0 (fun _ => ?_)
      refine wpAnyH_take (i := 0) (v := .pointer (some ⟨p, 0, none⟩)) rfl (by kernel_rfl) (by kernel_rfl) (by kernel_rfl) (fun _ _ _ h => h) (Or.inl ⟨by rfl, fun w hS => by have hS' : w.cell? ⟨r, 0, none⟩ = some (.slice zb (us).length zd) := hS; go_simp⟩) Z0 ?_
      go_simp
      refine wpAnyH_take (i := 1) (v := .bool false) rfl (by kernel_rfl) (by kernel_rfl) (by kernel_rfl) (fun _ _ _ h => h) (Or.inl ⟨by rfl, fun w hS => by have hS' : w.cell? ⟨r, 0, none⟩ = some (.slice zb (us).length zd) := hS; go_simp⟩) Z0 ?_
      go_simp
      refine wpAnyH_take (i := 2) (v := .bool false) rfl (by kernel_rfl) (by kernel_rfl) (by kernel_rfl) (fun _ _ _ h => h) (Or.inl ⟨by rfl, fun w hS => by have hS' : w.cell? ⟨r, 0, none⟩ = some (.slice zb (us).length zd) := hS; go_simp⟩) Z0 ?_
      go_simp
      refine wpAnyH_take (i := 3) (v := .int .i64 0) rfl (by kernel_rfl) (by kernel_rfl) (by kernel_rfl) (fun _ _ _ h => h) (Or.inl ⟨by rfl, fun w hS => by have hS' : w.cell? ⟨r, 0, none⟩ = some (.slice zb (us).length zd) := hS; go_simp⟩) Z0 ?_
      go_simp
      refine wpAnyH_take (i := 4) (v := .bool false) rfl (by kernel_rfl) (by kernel_rfl) (by kernel_rfl) (fun _ _ _ h => h) (Or.inl ⟨by rfl, fun w hS => by have hS' : w.cell? ⟨r, 0, none⟩ = some (.slice zb (us).length zd) := hS; go_simp⟩) Z0 ?_
      go_simp
      refine wpAnyH_take (i := 5) (v := .bool false) rfl (by kernel_rfl) (by kernel_rfl) (by kernel_rfl) (fun _ _ _ h => h) (Or.inl ⟨by rfl, fun w hS => by have hS' : w.cell? ⟨r, 0, none⟩ = some (.slice zb (us).length zd) := hS; go_simp⟩) Z0 ?_
      go_simp
      refine wpAnyH_take (i := 6) (v := .bool false) rfl (by kernel_rfl) (by kernel_rfl) (by kernel_rfl) (fun _ _ _ h => h) (Or.inl ⟨by rfl, fun w hS => by have hS' : w.cell? ⟨r, 0, none⟩ = some (.slice zb (us).length zd) := hS; go_simp⟩) Z0 ?_
      go_simp
      refine wpAnyH_take (i := 7) (v := .pointer (some ⟨p, 0, none⟩)) rfl (by kernel_rfl) (by kernel_rfl) (by kernel_rfl) (fun _ _ _ h => h) (Or.inl ⟨by rfl, fun w hS => by have hS' : w.cell? ⟨r, 0, none⟩ = some (.slice zb (us).length zd) := hS; go_simp⟩) Z0 ?_
      go_simp
      refine wpAnyH_take (i := 9) (v := .pointer (some ⟨r, 0, none⟩)) rfl (by kernel_rfl) (by kernel_rfl) (by kernel_rfl) (fun _ _ _ h => h) (Or.inl ⟨by rfl, fun w hS => by have hS' : w.cell? ⟨r, 0, none⟩ = some (.slice zb (us).length zd) := hS; go_simp⟩) Z0 ?_
      go_simp
      refine wpAnyH_take (i := 10) (v := .pointer (some ⟨r, 0, none⟩)) rfl (by kernel_rfl) (by kernel_rfl) (by kernel_rfl) (fun _ _ _ h => h) (Or.inl ⟨by rfl, fun w hS => by have hS' : w.cell? ⟨r, 0, none⟩ = some (.slice zb (us).length zd) := hS; go_simp⟩) Z0 ?_
      go_simp
      refine wpAnyH_take (i := 11) (v := .pointer (some ⟨r, 0, none⟩)) rfl (by kernel_rfl) (by kernel_rfl) (by kernel_rfl) (fun _ _ _ h => h) (Or.inl ⟨by rfl, fun w hS => by have hS' : w.cell? ⟨r, 0, none⟩ = some (.slice zb (us).length zd) := hS; go_simp⟩) Z0 ?_
      go_simp
      refine wpAnyH_take (i := 12) (v := .slice zb (us).length zd) rfl (by kernel_rfl) (by kernel_rfl) (by kernel_rfl) (fun _ _ _ h => h) (Or.inl ⟨by rfl, fun w hS => by have hS' : w.cell? ⟨r, 0, none⟩ = some (.slice zb (us).length zd) := hS; go_simp⟩) Z0 ?_
      go_simp
      refine wpAnyH_ready (rs := [8]) (by kernel_rfl) (by simp) (AllReadyH.cons rfl (fun K hK => ?_) AllReadyH.nil)
      go_simp
      refine (hU2).mono ?_
      rintro e wa ⟨ga, rfl, ka, hsm⟩
      have Za : wa.cell? ⟨r, 0, none⟩ = some (.slice zb (us).length zd) := by rw [ka.cell hzlt (by simp)]; exact Z0
      refine hK.out _ _ Za (fun _ => ?_)
      clear hK K
      go_simp
      refine wpAnyH_ready (rs := [13]) (by kernel_rfl) (by simp) (AllReadyH.cons rfl (fun K hK => ?_) AllReadyH.nil)
      go_simp
      refine (hsm).mono ?_
      rintro e wb ⟨rfl, kb⟩
      have Zb : wb.cell? ⟨r, 0, none⟩ = some (.slice zb (us).length zd) := by rw [kb.cell hzlt (by simp)]; exact Z0
      have hSb := hPz.sy.kept kb
      refine hK.out _ _ Zb (fun _ => ?_)
      clear hK K
      go_simp
      refine wpAnyH_take (i := 14) (v := .bool false) rfl (by kernel_rfl) (by kernel_rfl) (by kernel_rfl) (fun _ _ _ h => h) (Or.inl ⟨by rfl, fun w hS => by have hS' : w.cell? ⟨r, 0, none⟩ = some (.slice zb (us).length zd) := hS; go_simp⟩) Zb ?_
      go_simp
      refine wpAnyH_take (i := 15) (v := .bool false) rfl (by kernel_rfl) (by kernel_rfl) (by kernel_rfl) (fun _ _ _ h => h) (Or.inl ⟨by rfl, fun w hS => by have hS' : w.cell? ⟨r, 0, none⟩ = some (.slice zb (us).length zd) := hS; go_simp⟩) Zb ?_
      go_simp
      refine wpAnyH_take (i := 16) (v := .bool false) rfl (by kernel_rfl) (by kernel_rfl) (by kernel_rfl) (fun _ _ _ h => h) (Or.inl ⟨by rfl, fun w hS => by have hS' : w.cell? ⟨r, 0, none⟩ = some (.slice zb (us).length zd) := hS; go_simp⟩) Zb ?_
      go_simp
      refine wpAnyH_take (i := 17) (v := .pointer (some ⟨p, 0, none⟩)) rfl (by kernel_rfl) (by kernel_rfl) (by kernel_rfl) (fun _ _ _ h => h) (Or.inl ⟨by rfl, fun w hS => by have hS' : w.cell? ⟨r, 0, none⟩ = some (.slice zb (us).length zd) := hS; go_simp⟩) Zb ?_
      go_simp
      refine wpAnyH_take (i := 19) (v := .pointer (some ⟨r, 0, none⟩)) rfl (by kernel_rfl) (by kernel_rfl) (by kernel_rfl) (fun _ _ _ h => h) (Or.inl ⟨by rfl, fun w hS => by have hS' : w.cell? ⟨r, 0, none⟩ = some (.slice zb (us).length zd) := hS; go_simp⟩) Zb ?_
      go_simp
      refine wpAnyH_ready (rs := [18]) (by kernel_rfl) (by simp) (AllReadyH.cons rfl (fun K hK => ?_) AllReadyH.nil)
      go_simp
      refine (sy_room hSb).mono ?_
      rintro e wc ⟨rfl, kc⟩
      have kbc := kb.trans kc (by simp)
      have Zc : wc.cell? ⟨r, 0, none⟩ = some (.slice zb (us).length zd) := by rw [kbc.cell hzlt (by simp)]; exact Z0
      have hmc := hPz.m.kept kbc (by simp)
      refine hK.out _ _ Zc (fun _ => ?_)
      clear hK K
      go_simp
      refine wpAnyH_ready (rs := [20]) (by kernel_rfl) (by simp) (AllReadyH.cons rfl (fun K hK => ?_) AllReadyH.nil)
      go_simp
      refine (mroom_any hmc hlz.1 hlz.2.1 hlz.2.2.2 hlz.2.2.1).mono ?_
      rintro e wd ⟨rfl, rfl⟩
      refine hK.out _ _ Zc (fun _ => ?_)
      clear hK K
      go_simp
      refine wpAnyH_take (i := 21) (v := .bool false) rfl (by kernel_rfl) (by kernel_rfl) (by kernel_rfl) (fun _ _ _ h => h) (Or.inl ⟨by rfl, fun w hS => by have hS' : w.cell? ⟨r, 0, none⟩ = some (.slice zb (us).length zd) := hS; go_simp⟩) Zc ?_
      go_simp
      refine wpAnyH_take (i := 22) (v := .bool false) rfl (by kernel_rfl) (by kernel_rfl) (by kernel_rfl) (fun _ _ _ h => h) (Or.inl ⟨by rfl, fun w hS => by have hS' : w.cell? ⟨r, 0, none⟩ = some (.slice zb (us).length zd) := hS; go_simp⟩) Zc ?_
      go_simp
      refine wpAnyH_done (by kernel_rfl) ?_ _
      have hPy := Hid.mk (hPz.kept kbc)
      have hCy : Hid (Calm (s) (18 * (j + 1))) := ⟨hC.1, hC.2.1, by have := hC.2.2; omega⟩
      have hEy : Hid (ep ≤ 1 + 4 * (j + 1)) := by show _ ≤ _; omega
      clear hPz Z0 Za Zb Zc hU2 hsm ka kb kc kbc hSb hmc hzlt
      go_wp2_with fail
      exact ⟨⟨j + 1, p, s, ep, us, M, by go_num, by omega, rfl, rfl, hPy.out, hCy.out, hEy.out⟩, by simp [intOf]; omega⟩
    · have hlt2 : ¬ (j : Int) < (ls.length : Int) := by omega
      have hfin := Hid.mk hP.sy.k
      clear hP hC
      go_wp2
      go_ret
      exact ⟨rfl, hfin.out⟩
theorem plays_any (ct fr : Nat) (hct : ct ≤ 255) (hfr : fr ≤ 255) (v : Value) (ls : List OpL) (w : World) (hv : HoldsO w v ls) : Calls Try.prog 3 #[.int .u8 (ct : Int), .int .u8 (fr : Int), v] w fun e w' => e = .returned (.bool true) ∧ Kept [] w w' := by
  by_cases h : ls.length ≤ 60
  · by_cases h0 : ct = 0
    · subst h0
      obtain ⟨a1, c1, rfl, _⟩ := hv
      exact plays_zero fr hfr a1 ls.length c1 w h
    · exact plays_walk ct fr hct hfr (by omega) v ls w hv h
  · obtain ⟨a1, c1, rfl, _⟩ := hv
    exact plays_long ct fr a1 ls.length c1 w (by omega)
end Go.Proofs.Ytdcjaopmfccgbaa
