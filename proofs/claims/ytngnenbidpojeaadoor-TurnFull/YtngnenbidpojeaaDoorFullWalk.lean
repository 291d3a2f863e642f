/-
  TurnFull's walk.
-/
import Derived.Test.YtngnenbidpojeaaDoorUz
namespace Go.Proofs.YtngnenbidpojeaaDoor
set_option maxRecDepth 100000
open Go.RowKit
set_option linter.unusedVariables false
section
variable {w : World}
set_option maxHeartbeats 8000000 in
theorem full4 (hG : Glob w) (v : Nat) (hv : v < 256) (s : Nat) (hs : s < 256) : Calls Tryd.prog 4 #[.int .u8 (v : Int), .int .u8 (s : Int)] w fun e w' => e = .returned (.bool true) ∧ Kept [] w w' := by
  have ha : (v : Int) % 33 = ((v % 33 : Nat) : Int) := by omega
  have hb : (s : Int) % 5 = ((s % 5 : Nat) : Int) := by omega
  have hn : v % 33 ≤ 32 := by omega
  have hm : s % 5 ≤ 4 := by omega
  generalize v % 33 = n at *
  generalize s % 5 = m at *
  have HA := Hid.mk ha
  have HB := Hid.mk hb
  have HNM := Hid.mk (And.intro hn hm)
  have HG := Hid.mk hG
  have HAw := Hid.mk (awake7 hG)
  clear hG ha hb hv hs
  go_enter Tryd.func4, Tryd.ntmps4
  go_wp2_with fail
  refine HAw.out.mono ?_
  rintro e w1 ⟨rfl, k1⟩
  have K1 := Hid.mk k1
  have HNew := Hid.mk (new13 (w0 := w1) (w := w1) [109, 101] (by decide) (Nat.le_refl _))
  clear k1 HAw
  go_wp2_with fail
  refine HNew.out.mono ?_
  rintro e w2 ⟨p, pj, pi, po, rfl, hp, k2⟩
  have HP : Hid (AP w1 w2 p pj pi po (fuA ⟨[109, 101], [], []⟩ [])) := Hid.mk (AP.new hp (by decide))
  have K2 : Hid (Kept [] w w2) := Hid.mk (K1.out.then k2)
  have HPL : Hid (w.heap.size ≤ p ∧ w.heap.size ≤ pj ∧ w.heap.size ≤ pi ∧ w.heap.size ≤ po) := by
    have := K1.out.size
    have := hp.hp; have := hp.hj; have := hp.hi; have := hp.ho
    exact Hid.mk (by omega)
  clear hp k2 HNew
  go_wp2_with fail
  simp only [HA.out]
  go_loopw [20] (fun i wr => ∃ (j : Nat) (o : Ob), i = .int .u8 (j : Int) ∧ j ≤ n ∧ Hid (InO o j) ∧ Hid (AP w1 wr p pj pi po (fuA o [])) ∧ Hid (Kept [] w wr)) (fun i _ => n - (intOf i).toNat)
  case atStart => exact ⟨0, _, rfl, by omega, Hid.mk InO.new, HP, K2⟩
  case round =>
    obtain ⟨j, o, rfl, hj, HI, HPj, Kj⟩ := hrel
    clear HP K2
    by_cases hlt : j < n
    · have HC := Hid.mk (sendF HPj.out HI.out (by omega))
      have d2 := HPj.out.cellsA.2
      have hltI : (j : Int) < (n : Int) := by omega
      have e1 : IntKind.u8.wrap ((j : Int) + 1) = ((j + 1 : Nat) : Int) := by rw [IntKind.wrap_u8]; omega
      have HI2 := Hid.mk (HI.out.snd 0 [])
      have HLT := Hid.mk hlt
      go_wp2_with fail
      refine HC.out.mono ?_
      rintro e w3 ⟨⟨r, rfl⟩, hp3, k3⟩
      have HP3 := Hid.mk hp3
      have K3 : Hid (Kept [] w w3) := Hid.mk (Kj.out.trans k3 (fun x hx => .inr (by have := HPL.out; simp at hx; omega)))
      clear hp3 k3 d2 HC
      go_wp2_with fail
      go_roundw
      case rel => exact ⟨j + 1, _, by first | rfl | go_num, by have := HLT.out; omega, HI2, HP3, K3⟩
      case measure => (have := HLT.out; simp [intOf]; omega)
    · have hltI : ¬ (j : Int) < (n : Int) := by omega
      obtain rfl : j = n := by omega
      go_wp2_with fail
      obtain ⟨W1, e1, k1, hz1, hb1, hb2⟩ := box2 wr (.cells #[.string ⟨#[98]⟩] 9) (.cells #[.slice (some ⟨wr.heap.size, 0, none⟩) 1 1, .slice none 0 0] 49)
      rw [e1]
      have HPB : Hid (PB 49 45 wr W1 (wr.heap.size + 1) (.slice (some ⟨wr.heap.size, 0, none⟩) 1 1) (.slice none 0 0) (pgS 0)) := Hid.mk ⟨hb2, ⟨ownsR_block (rs := rowN [[98]]) hb1 (wideN _) rfl (by unfold maxLen; omega), fun g hg => by simp [Value.ownBlock] at hg; omega, k1⟩, Out.nil k1, by omega⟩
      have HPI : Hid (pi < wr.heap.size) := by
        obtain ⟨v, h1, -, -⟩ := HPj.out
        obtain ⟨qs, hB, -⟩ := h1.i
        exact Hid.mk (lt_of_block hB.box)
      clear e1 k1 hz1 hb1 hb2
      generalize (Value.slice (some ⟨wr.heap.size, 0, none⟩) 1 1) = vN at *
      generalize wr.heap.size + 1 = g at *
      generalize hwq : wr = wq at *
      clear hwq
      simp only [HB.out]
      go_loopw [32] (fun i wr => ∃ (k : Nat) (x : Value), i = .int .u8 (k : Int) ∧ k ≤ m ∧ Hid (PB 49 45 wq wr g vN x (pgS k))) (fun i _ => m - (intOf i).toNat)
      case atStart => exact ⟨0, _, rfl, by omega, HPB⟩
      case round =>
        obtain ⟨k, x, rfl, hk, HPk⟩ := hrel
        clear HPB
        have hlk : (pgS k).code.length = 3 * k := by simp [pgS]; omega
        obtain ⟨xa, xc, hx, -, -⟩ := HPk.out.code.form
        have hlr : (rowI (pgS k).code).length = 3 * k := by rw [← hlk]; simp [rowI]
        rw [hlr] at hx
        subst hx
        by_cases hlt : k < m
        · have hltI : (k : Int) < (m : Int) := by omega
          obtain ⟨ad2, c2, w2, hrun, r0, r1, hPB⟩ := HPk.out.addCodes rtI (by decide) (by decide) (by decide) [⟨1, 3⟩, ⟨1, 4⟩, ⟨17, 0⟩] (by show 3 ≤ 1000; omega) (by rw [hlk]; omega) 46 (fun W hW => prog_fresh hW (by show 3 ≤ 1000; omega))
          rw [hlk] at hrun hPB
          have hrun : (Builtin.append_ #[46, 46] 46 #[.slice xa (3 * k) xc, .slice (some ⟨wr.heap.size, 0, none⟩) 3 3]).run Tryd.prog (wr.alloc (.cells #[.int .i64 1, .int .i64 3, .int .i64 1, .int .i64 4, .int .i64 17, .int .i64 0] 45)) = .ok (.slice ad2 (3 * k + 3) c2) w2 := hrun
          have HN : Hid (PB 49 45 wq (w2.setCell ⟨g, 1, none⟩ (.slice ad2 (3 * k + 3) c2)) g vN (.slice ad2 (3 * k + 3) c2) (pgS (k + 1))) := by
            have e9 : pgS (k + 1) = ⟨(pgS k).names, (pgS k).code ++ [⟨1, 3⟩, ⟨1, 4⟩, ⟨17, 0⟩]⟩ := by
              rw [← pgS_next]; rfl
            rw [e9]
            exact Hid.mk hPB
          have z1 := HPk.out.c1
          have e1 : IntKind.u8.wrap ((k : Int) + 1) = ((k + 1 : Nat) : Int) := by rw [IntKind.wrap_u8]; omega
          have HLT := Hid.mk hlt
          clear hPB hlk hlr
          go_wp2_with (at_builtin; refine wpList_append_run 46 46 _ _ rfl (by rfl) _ _ rfl rfl _ _ hrun ?_)
          go_roundw
          case rel => exact ⟨k + 1, _, by first | rfl | go_num, by have := HLT.out; omega, HN⟩
          case measure => (have := HLT.out; simp [intOf]; omega)
        · have hltI : ¬ (k : Int) < (m : Int) := by omega
          obtain rfl : k = m := by omega
          have HP4 := Hid.mk (HPj.out.kept0 HPk.out.kept)
          have K4 : Hid (Kept [] w wr) := Hid.mk (Kj.out.then HPk.out.kept)
          have HC := Hid.mk (pushP_any HP4.out ltZ none 0 (ReadsR.nil 1 wr) (lok_of (by decide) (i64_lit (by decide)) (fun z hz => by simp [ltZ] at hz)))
          have d1 := HP4.out.cellsA.1
          clear hlk hlr
          go_wp2_with fail
          refine HC.out.mono ?_
          rintro e w5 ⟨rfl, hp5, k5⟩
          have HP5 : Hid (AP w1 w5 p pj pi po (fuA o [ltZ])) := Hid.mk hp5
          obtain ⟨hbx, hIP⟩ := HPk.out.aside k5 HPI.out
          have K5 : Hid (Kept [] w w5) := Hid.mk (K4.out.trans k5 (fun x hx => .inr (by have := HPL.out; simp at hx; omega)))
          have hC := take10 (HG.out.kept K5.out) HP5.out (lim_fu HI.out [ltZ]) (by have := HNM.out; omega) (by omega) (pg := pgS k) (now := 0) hIP (by simp [pgS]) (okpS k) (i64_lit (by decide))
          obtain ⟨z0, z1⟩ := cells2_N hbx
          have hTF := takeF HI.out HNM.out.1 HNM.out.2
          clear hp5 k5 hIP hbx HC d1
          have ha := HA.out
          have hb := HB.out
          have hnn : (j : Int) ≤ 32 := by have := HNM.out; omega
          have hmm : (k : Int) ≤ 4 := by have := HNM.out; omega
          by_cases hs : j + k ≤ 32
          · obtain ⟨j', q, kk, hT, hQ⟩ := hTF.1 hs
            rw [hT] at hC
            have HC := Hid.mk hC
            have HQ := Hid.mk hQ
            have hsI : ((32 : Int) < (j : Int) + (k : Int)) = False := eq_false (by omega)
            clear hC hTF hT hQ
            go_wp2_with fail
            refine HC.out.mono ?_
            rintro e w6 ⟨v6, rfl, ⟨tv, rfl, q1, -⟩, hap, k6⟩
            obtain ⟨at', ct', rfl, -, -⟩ := q1.form
            obtain ⟨W7, e7, k7, hz7, hb7⟩ := box1 w6 (.cells #[.bool true, .bool false, .int .i64 0, .int .i64 (kk : Int), .slice at' 0 ct'] 41)
            obtain ⟨x0, x1, x2, x3, x4⟩ := cells5 hb7
            have HP7 := Hid.mk (hap.kept0 k7)
            obtain ⟨d1, d2⟩ := HP7.out.cellsA
            have K7 : Hid (Kept [] w W7) := Hid.mk ((K5.out.trans k6 (fun x hx => by
              right
              have := HPL.out
              simp at hx
              rcases hx with rfl | rfl | rfl | rfl <;> omega)).then k7)
            clear q1 hap k6 k7 hz7 hb7 HC
            dsimp only [Oval]
            rw [show (rowT ([] : List Tm)).length = 0 from rfl]
            have HAl := Hid.mk HP7.out.alls
            have hql : (⟨j', [], q, 0, []⟩ : Ac).out.L.length = j + k := HQ.out.len
            rw [hql] at HAl
            have e2 : IntKind.u64.wrap ((j : Int) + (k : Int)) = ((j + k : Nat) : Int) := by rw [IntKind.wrap_u64]; omega
            clear hql
            go_wp2_with fail
            refine HAl.out.mono ?_
            rintro e w8 ⟨⟨ad8, c8, rfl⟩, k8⟩
            have K8 : Hid (Kept [] w w8) := Hid.mk (K7.out.then k8)
            have HP8 := Hid.mk (HP7.out.kept0 k8)
            obtain ⟨d1', d2'⟩ := HP8.out.cellsA
            have HLn := Hid.mk HP8.out.lens
            have HSe := Hid.mk (HP8.out.sers [98])
            have hsq : ser q.K [98] = j + k := HQ.out.ser
            have hsq' : ser (⟨j', [], q, 0, []⟩ : Ac).out.K [98] = j + k := hsq
            rw [hsq'] at HSe
            clear k8 HAl d1 d2 hsq hsq'
            have e3 : (((j + k : Nat) : Int)) = (j : Int) + (k : Int) := by omega
            go_wp2_with fail
            refine HLn.out.mono ?_
            rintro e w9 ⟨rfl, rfl⟩
            go_wp2_with fail
            refine HSe.out.mono ?_
            rintro e w9 ⟨rfl, k9⟩
            go_wp2_with fail
            go_ret
            exact ⟨rfl, K8.out.then k9⟩
          · have hsI : (32 : Int) < (j : Int) + (k : Int) := by omega
            have hT := hTF.2 (by omega)
            rw [hT] at hC
            have HC := Hid.mk hC
            clear hC hTF hT
            go_wp2_with fail
            refine HC.out.mono ?_
            rintro e w6 ⟨v6, rfl, ⟨tv, rfl, q1, -⟩, hap, k6⟩
            obtain ⟨at', ct', rfl, -, -⟩ := q1.form
            obtain ⟨W7, e7, k7, hz7, hb7⟩ := box1 w6 (.cells #[.bool false, .bool false, .int .i64 0, .int .i64 0, .slice at' 0 ct'] 41)
            obtain ⟨x0, x1, x2, x3, x4⟩ := cells5 hb7
            have HP7 := Hid.mk (hap.kept0 k7)
            obtain ⟨d1, d2⟩ := HP7.out.cellsA
            have K7 : Hid (Kept [] w W7) := Hid.mk ((K5.out.trans k6 (fun x hx => by
              right
              have := HPL.out
              simp at hx
              rcases hx with rfl | rfl | rfl | rfl <;> omega)).then k7)
            clear q1 hap k6 k7 hz7 hb7 HC
            dsimp only [Oval, ocN]
            rw [show (rowT ([] : List Tm)).length = 0 from rfl]
            have HAl := Hid.mk HP7.out.alls
            have hql : (fuA o [ltZ]).out.L.length = j := HI.out.len
            rw [hql] at HAl
            have e2 : IntKind.u64.wrap (j : Int) = (j : Int) := by rw [IntKind.wrap_u64]; omega
            clear hql
            go_wp2_with fail
            refine HAl.out.mono ?_
            rintro e w8 ⟨⟨ad8, c8, rfl⟩, k8⟩
            have K8 : Hid (Kept [] w w8) := Hid.mk (K7.out.then k8)
            have HP8 := Hid.mk (HP7.out.kept0 k8)
            obtain ⟨d1', d2'⟩ := HP8.out.cellsA
            have HLn := Hid.mk HP8.out.lens
            have HSe := Hid.mk (HP8.out.sers [98])
            have hsq' : ser (fuA o [ltZ]).out.K [98] = j := HI.out.ser
            rw [hsq'] at HSe
            clear k8 HAl d1 d2 hsq'
            go_wp2_with fail
            refine HLn.out.mono ?_
            rintro e w9 ⟨rfl, rfl⟩
            go_wp2_with fail
            refine HSe.out.mono ?_
            rintro e w9 ⟨rfl, k9⟩
            go_wp2_with fail
            go_ret
            exact ⟨rfl, K8.out.then k9⟩
end
end Go.Proofs.YtngnenbidpojeaaDoor
