/-
  DiskLast: the walk.
-/
import Derived.Test.YtmbfojjmnjagiaaFuse
namespace Go.Proofs.Ytmbfojjmnjagiaa
open Go.RowKit
set_option linter.unusedVariables false

set_option maxRecDepth 100000 in
set_option maxHeartbeats 1000000 in
theorem last_long (a : Option Addr) (m cap : Nat) (w : World) (h : 200 < m) : Calls Try.prog 7 #[.slice a m cap] w fun e w' => e = .returned (.bool true) ∧ Kept [] w w' := by
  have hn : (200 : Int) < (m : Int) := by omega
  go_enter Try.func7, Try.ntmps7
  go_wp2_with fail
  refine (awake_any w).mono ?_
  rintro e w1 ⟨rfl, k1⟩
  go_wp2_with fail
  refine (awake_any w1).mono ?_
  rintro e w2 ⟨rfl, k2⟩
  have hK := k1.trans k2 (by simp)
  clear k1 k2
  go_wp2
  go_ret
  exact ⟨rfl, hK⟩

/-- Behind j rounds: the first j of l are written, each with a block of its own. -/
structure Wrote (l : List UInt8) (j : Nat) (s : St) : Prop where
  nb : s.nb = 256
  len : s.ws.length = j
  fuse : s.fuse = -1
  up : s.down = false
  at' : ∀ k x, k < j → l[k]? = some x → s.ws[k]? = some (x.toNat, blockL (UInt8.ofNat (k + 1)))

theorem Wrote.next {l : List UInt8} {j : Nat} {s : St} (h : Wrote l j s) (x : UInt8) (hx : l[j]? = some x) : Wrote l (j + 1) (wrS s (x.toNat : Int) (blockL (UInt8.ofNat (j + 1)))) ∧ wrE s (x.toNat : Int) (blockL (UInt8.ofNat (j + 1))).length = 0 := by
  have hxl := UInt8.toNat_lt x
  have hin : ¬ ((x.toNat : Int) < 0 ∨ (s.nb : Int) ≤ (x.toNat : Int) ∨ (blockL (UInt8.ofNat (j + 1))).length ≠ 256) := by rw [h.nb, blockL_length]; omega
  have e1 : ¬ s.down = true := by rw [h.up]; simp
  have e2 : ¬ s.fuse = 0 := by rw [h.fuse]; omega
  unfold wrS wrE
  rw [if_neg e1, if_neg e1, if_neg hin, if_neg hin, if_neg e2, if_neg e2]
  refine ⟨⟨h.nb, ?_, ?_, h.up, ?_⟩, rfl⟩
  · show (s.ws ++ [_]).length = _
    rw [List.length_append, h.len]; rfl
  · show (if 0 < s.fuse then s.fuse - 1 else s.fuse) = _
    rw [h.fuse, if_neg (by omega)]
  · intro k y hk hy
    show (s.ws ++ [((x.toNat : Int).toNat, blockL (UInt8.ofNat (j + 1)))])[k]? = _
    by_cases e : k = j
    · subst e
      rw [hx] at hy
      simp at hy
      subst hy
      rw [List.getElem?_append_right (by rw [h.len]; omega), h.len, Nat.sub_self]
      simp
    · rw [List.getElem?_append_left (by rw [h.len]; omega)]
      exact h.at' k y (by omega) hy

/-- The last write into a block. -/
theorem Wrote.blk {l : List UInt8} {s : St} (h : Wrote l l.length s) (i t : Nat) (x : UInt8) (hi : l[i]? = some x) (ht : l[t]? = some x) (hf : ∀ j' y, t < j' → l[j']? = some y → y ≠ x) : blk s.ws x.toNat = blockL (UInt8.ofNat (t + 1)) := by
  have htl : t < l.length := (List.getElem?_eq_some_iff.1 ht).1
  refine blk_at s.ws x.toNat t _ (h.at' t x htl ht) rfl (fun j' y hj hy => ?_)
  have hjl : j' < s.ws.length := (List.getElem?_eq_some_iff.1 hy).1
  rw [h.len] at hjl
  have h1 := h.at' j' l[j'] hjl (by simp)
  rw [hy] at h1
  simp at h1
  subst h1
  intro e
  exact hf j' l[j'] (by omega) (by simp) (UInt8.toNat_inj.1 e)

set_option maxRecDepth 100000 in
set_option maxHeartbeats 2000000 in
theorem last_walk (v : Value) (l : List UInt8) (w : World) (hv : Reads w v l) (hl : l.length ≤ 200) : Calls Try.prog 7 #[v] w fun e w' => e = .returned (.bool true) ∧ Kept [] w w' := by
  obtain ⟨a, cap, rfl, h2, h3, h4, h5⟩ := id hv
  have hcap : cap ≤ 9223372036854775807 := h3
  clear h5 h4 h3
  have hl1 : ¬ (200 : Int) < (l.length : Int) := by omega
  go_enter Try.func7, Try.ntmps7
  go_wp2_with fail
  refine (awake_any w).mono ?_
  rintro e w1 ⟨rfl, k1⟩
  go_wp2_with fail
  refine (new_any 256 w1).mono ?_
  rintro e w3 ⟨p, rfl, F, hD3, k2, n2⟩
  have K3 : Kept [] w w3 := k1.trans k2 (by simp)
  have N3 : ∀ x ∈ F, w.heap.size ≤ x := fun x hx => by have := n2 x hx; have := k1.size; omega
  have B3 : Wrote l 0 (newS 256) := ⟨rfl, rfl, rfl, rfl, fun k x hk => by omega⟩
  generalize newS 256 = s3 at hD3 B3
  clear k1 k2 n2
  go_wp2_with fail
  go_loopw [4, 21] (fun _ i wr => ∃ j : Nat, i = .int .i64 (j : Int) ∧ ∃ s F, j ≤ l.length ∧ IsD wr F p s ∧ Wrote l j s ∧ Kept [] w wr ∧ (∀ x ∈ F, w.heap.size ≤ x)) (fun _ i _ => l.length - (intOf i).toNat)
  case atStart => exact ⟨0, rfl, s3, F, by omega, hD3, B3, K3, N3⟩
  case round =>
    clear hD3 B3 K3 N3
    obtain ⟨j, rfl, s, F, hj, hD, hB, hK, hN⟩ := hrel
    by_cases hlt : j < l.length
    · have hlt2 : (j : Int) < (l.length : Int) := by omega
      obtain ⟨x, hx⟩ : ∃ x, l[j]? = some x := ⟨l[j], by simp⟩
      obtain ⟨a', cap', hveq, -, -, -, h5⟩ := hv.kept hK (by simp)
      injection hveq with e1 e2 e3
      subst e1 e3
      obtain ⟨b, o, rfl, hcc⟩ := h5 (fun h => by subst h; simp at hx)
      have hc0 : wr.cell? ⟨b, o + j, none⟩ = some (.int .u8 (x.toNat : Int)) := hcc j x hx
      have hB2 := hB.next x hx
      have hbb : s.ws.length ≤ 1000 := by rw [hB.len]; omega
      have S0 : wr.drew.cell? ⟨b, o + j, none⟩ = some (.int .u8 (x.toNat : Int)) := hc0
      have hnF : b ∉ F := fun hm => by
        obtain ⟨k, hk, h1⟩ := hv.lt (fun h => by subst h; simp at hx)
        simp [Value.ownBlock] at hk
        subst hk
        have := hN b hm
        omega
      have hW : Calls Try.prog 18 #[.agg #[.int .i64 0, .int .i64 0, .int .u8 (((UInt8.ofNat (j + 1)).toNat : Nat) : Int), .bool false]] wr.drew fun e wb => ∃ v, e = .returned v ∧ wb.cell? ⟨b, o + j, none⟩ = some (.int .u8 (x.toNat : Int)) ∧
          Calls Try.prog 17 #[.pointer (some ⟨p, 0, none⟩), .int .i64 (x.toNat : Int), v] wb fun e wc => e = .returned (.int .i64 (wrE s (x.toNat : Int) (blockL (UInt8.ofNat (j + 1))).length)) ∧ wc.cell? ⟨b, o + j, none⟩ = some (.int .u8 (x.toNat : Int)) ∧ ∃ F', IsD wc F' p (wrS s (x.toNat : Int) (blockL (UInt8.ofNat (j + 1)))) ∧ Kept F wr.drew wc ∧ NewF wr.drew F F' := by
        refine (block_write (x.toNat : Int) (UInt8.ofNat (j + 1)) (hD.kept ((Kept.refl [] wr).drew) (by simp)) hbb).mono fun e wb ⟨v, he, kb, hh⟩ => ⟨v, he, ?_, hh.mono fun e wc ⟨he, F', d1, d2, d3⟩ => ⟨he, ?_, F', d1, d2, d3⟩⟩
        · rw [kb.cell (World.block_lt_of_cell? _ _ S0) (by simp)]; exact S0
        · rw [d2.cell (World.block_lt_of_cell? _ _ S0) hnF]; exact S0
      have hwrap : IntKind.u8.wrap ((j : Int) + 1) = (((UInt8.ofNat (j + 1)).toNat : Nat) : Int) := by rw [IntKind.wrap_u8]; simp
      have hwrap2 : IntKind.i64.wrap ((j : Int) + 1) = (j : Int) + 1 := by rw [IntKind.wrap_i64]; omega
      have hxw : IntKind.i64.wrap (x.toNat : Int) = (x.toNat : Int) := by rw [IntKind.wrap_i64]; have := UInt8.toNat_lt x; omega
      rw [hB2.2] at hW
      have hB3 : Hid (Wrote l (j + 1) (wrS s (x.toNat : Int) (blockL (UInt8.ofNat (j + 1))))) := hB2.1
      generalize wrS s (x.toNat : Int) (blockL (UInt8.ofNat (j + 1))) = s' at hW hB3
      clear hD hB hbb hcc h5 hx hnF hB2
      go_wp2_with fail
      go_region_held3 (fun w' => w'.cell? ⟨b, o + j, none⟩ = some (.int .u8 (x.toNat : Int))) (first | exact S0 | exact S1 | exact S2) (first | (go_at_call 17; refine hW2.mono ?_; rintro e wc ⟨rfl, S2, hE⟩) | (go_at_call 18; refine hW.mono ?_; rintro e wb ⟨vb, rfl, S1, hW2⟩))
      obtain ⟨F', hDc, kc, nc⟩ := hE
      have hKc : Kept [] w wc := hK.drew.trans kc (fun y hy => .inr (hN y hy))
      have hNc : ∀ y ∈ F', w.heap.size ≤ y := fun y hy => by
        rcases nc y hy with h | h
        · exact hN y h
        · have h' : wr.heap.size ≤ y := h
          have := hK.size; omega
      clear hW S0 S1 S2 kc nc hK hN hW2 hwrap hwrap2 hc0
      go_wp2_with fail
      go_roundw
      case rel => exact ⟨j + 1, by go_num, s', F', by omega, hDc, hB3.out, hKc, hNc⟩
      case measure => simp [intOf]; omega
    · have hlt2 : ¬ (j : Int) < (l.length : Int) := by omega
      have hjl : j = l.length := by omega
      subst hjl
      have HW : Hid (Wrote l l.length s) := hB
      clear hB hj hlt hlt2
      go_wp2_with fail
      go_loopw [5, 40] (fun _ i w2 => ∃ j : Nat, i = .int .i64 (j : Int) ∧ j ≤ l.length ∧ IsD w2 F p s ∧ Kept [] w w2) (fun _ i _ => l.length - (intOf i).toNat)
      case atStart => exact ⟨0, rfl, by omega, hD, hK⟩
      case round =>
        clear hD hK
        obtain ⟨j, rfl, hj, hD, hK⟩ := hrel
        by_cases hlt : j < l.length
        · have hlt2 : (j : Int) < (l.length : Int) := by omega
          obtain ⟨x, hx⟩ : ∃ x, l[j]? = some x := ⟨l[j], by simp⟩
          have HX : Hid (l[j]? = some x) := hx
          clear hx
          obtain ⟨b, o, rfl, HC⟩ : ∃ b o, a = some ⟨b, o, none⟩ ∧ Hid (∀ W, Kept [] w W → ∀ m y, l[m]? = some y → W.cell? ⟨b, o + m, none⟩ = some (.int .u8 (y.toNat : Int))) := by
            obtain ⟨a', cap', hveq, -, -, -, h6⟩ := id hv
            injection hveq with e1 e2 e3
            subst e1 e3
            obtain ⟨b, o, hab, hc⟩ := h6 (fun h => by subst h; simp at hlt)
            exact ⟨b, o, hab, fun W k m y hy => by rw [k.cell (World.block_lt_of_cell? _ _ (hc m y hy)) (by simp)]; exact hc m y hy⟩
          go_wp2_with fail
          go_loopw [6, 7] (fun u k w4 => ∃ t m : Nat, u = .int .i64 (t : Int) ∧ k = .int .i64 (m : Int) ∧ t < l.length ∧ m ≤ l.length ∧ j ≤ m ∧ l[t]? = some x ∧ (∀ j' y, t < j' → j' < m → l[j']? = some y → y ≠ x) ∧ IsD w4 F p s ∧ Kept [] w w4) (fun _ k _ => l.length - (intOf k).toNat)
          case atStart => exact ⟨j, j, rfl, rfl, hlt, by omega, by omega, HX.out, fun j' y h1 h2 => by omega, hD, hK⟩
          case round =>
            clear hD hK
            obtain ⟨t, m, rfl, rfl, htl, hml, hjm, htx, hfr, hD, hK⟩ := hrel
            have HT : Hid (l[t]? = some x) := htx
            have HF : Hid (∀ j' y, t < j' → j' < m → l[j']? = some y → y ≠ x) := hfr
            clear htx hfr
            by_cases hm : m < l.length
            · have hm2 : (m : Int) < (l.length : Int) := by omega
              obtain ⟨y, hy⟩ : ∃ y, l[m]? = some y := ⟨l[m], by simp⟩
              have c1 := HC.out _ hK m y hy
              have c2 := HC.out _ hK j x HX.out
              have HY : Hid (l[m]? = some y) := hy
              clear hy
              by_cases he : y = x
              · subst he
                have HF2 : Hid (∀ j' z, m < j' → j' < m + 1 → l[j']? = some z → z ≠ y) := fun j' z h1 h2 => by omega
                go_wp2_with fail
                go_quiet (fail)
                go_wp2
                go_roundw
                case rel => exact ⟨m, m + 1, rfl, by go_num, hm, by omega, by omega, HY.out, HF2.out, hD.kept ((Kept.refl [] _).drewN _) (by simp), hK.drewN _⟩
                case measure => simp [intOf]; omega
              · have hne : ((y.toNat : Int) == (x.toNat : Int)) = false := by
                  simp
                  intro h
                  exact he (UInt8.toNat_inj.1 (by omega))
                have HF2 : Hid (∀ j' z, t < j' → j' < m + 1 → l[j']? = some z → z ≠ x) := fun j' z h1 h2 hz => by
                  by_cases e : j' = m
                  · subst e
                    rw [HY.out] at hz
                    simp at hz
                    subst hz
                    exact he
                  · exact HF.out j' z h1 (by omega) hz
                go_wp2_with fail
                go_quiet (fail)
                go_wp2
                go_roundw
                case rel => exact ⟨t, m + 1, rfl, by go_num, htl, by omega, by omega, HT.out, HF2.out, hD.kept ((Kept.refl [] _).drewN _) (by simp), hK.drewN _⟩
                case measure => simp [intOf]; omega
            · have hm2 : ¬ (m : Int) < (l.length : Int) := by omega
              have hmm : m = l.length := by omega
              subst hmm
              have hBL : blk s.ws x.toNat = blockL (UInt8.ofNat (t + 1)) := HW.out.blk j t x HX.out HT.out (fun j' y h1 h3 => HF.out j' y h1 (List.getElem?_eq_some_iff.1 h3).1 h3)
              have c2 := HC.out _ hK j x HX.out
              have hxl := UInt8.toNat_lt x
              have hrd := read_ok hD x.toNat HW.out.up (by rw [HW.out.nb]; exact hxl)
              rw [hBL] at hrd
              have hwn : wnA s (j : Int) = (x.toNat : Int) := by
                unfold wnA
                rw [if_neg (by rw [HW.out.len]; omega), Int.toNat_natCast, List.getD_eq_getElem?_getD, HW.out.at' j x (by omega) HX.out]
                rfl
              have hwrap : IntKind.u8.wrap ((t : Int) + 1) = (((UInt8.ofNat (t + 1)).toNat : Nat) : Int) := by rw [IntKind.wrap_u8]; simp
              have hwrap2 : IntKind.i64.wrap ((t : Int) + 1) = (t : Int) + 1 := by rw [IntKind.wrap_i64]; omega
              have hxw : IntKind.i64.wrap (x.toNat : Int) = (x.toNat : Int) := by rw [IntKind.wrap_i64]; omega
              have h0 : (blockL (UInt8.ofNat (t + 1)))[0]? = some (UInt8.ofNat (t + 1)) := by rw [blockL, List.getElem?_replicate, if_pos (by omega)]
              clear hBL
              go_wp2_with fail
              refine hrd.mono ?_
              rintro e wa ⟨rfl, hRa, ka⟩
              have hKa := hK.trans ka (by simp)
              have hDa := hD.kept ka (by simp)
              have S0 : wa.drew.cell? ⟨wr.heap.size, 0, none⟩ = some (.int .u8 (((UInt8.ofNat (t + 1)).toNat : Nat) : Int)) ∧ wa.drew.cell? ⟨b, o + j, none⟩ = some (.int .u8 (x.toNat : Int)) := ⟨hRa.cell 0 _ h0, HC.out _ hKa j x HX.out⟩
              have hwr := written_any (hDa.kept ((Kept.refl [] wa).drew) (by simp)) (j : Int)
              rw [hwn] at hwr
              generalize UInt8.ofNat (t + 1) = z at S0 hwrap
              clear hrd ka hK hD hRa c2 hwn h0
              go_wp2_with fail
              go_region_held3 (fun w' => w'.cell? ⟨wr.heap.size, 0, none⟩ = some (.int .u8 (z.toNat : Int)) ∧ w'.cell? ⟨b, o + j, none⟩ = some (.int .u8 (x.toNat : Int))) (exact S0) (first | (go_at_call 23; refine hwr.mono ?_; rintro e wb ⟨rfl, rfl⟩))
              all_goals
                go_wp2
                go_roundw
                case rel => exact ⟨j + 1, by go_num, by omega, hDa.kept ((Kept.refl [] wa).drew) (by simp), hKa.drew⟩
                case measure => simp [intOf]; omega
        · have hlt2 : ¬ (j : Int) < (l.length : Int) := by omega
          have hw := writes_any hD
          have hn := written_any hD (l.length : Int)
          have hnA : wnA s (l.length : Int) = -1 := by unfold wnA; rw [if_pos (by rw [HW.out.len]; omega)]
          rw [hnA] at hn
          rw [HW.out.len] at hw
          clear hD hnA
          go_wp2_with (first | (go_at_call 20; refine hw.mono ?_; rintro e w' ⟨rfl, rfl⟩) | (go_at_call 23; refine hn.mono ?_; rintro e w' ⟨rfl, rfl⟩))
          go_ret
          exact ⟨rfl, hK⟩

theorem last_any (v : Value) (l : List UInt8) (w : World) (hv : Reads w v l) : Calls Try.prog 7 #[v] w fun e w' => e = .returned (.bool true) ∧ Kept [] w w' := by
  by_cases h : l.length ≤ 200
  · exact last_walk v l w hv h
  · obtain ⟨a, cap, rfl, _⟩ := hv
    exact last_long a l.length cap w (by omega)

end Go.Proofs.Ytmbfojjmnjagiaa
