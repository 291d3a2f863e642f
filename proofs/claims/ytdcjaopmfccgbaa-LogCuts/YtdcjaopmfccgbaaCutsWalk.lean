/-
  LogCuts answers true.
-/
import Derived.Test.YtdcjaopmfccgbaaWall
namespace Go.Proofs.Ytdcjaopmfccgbaa
open Go.RowKit
set_option linter.unusedVariables false

/-- The disk on which just these units were appended. -/
def SC (ep : Nat) (us : List (List UInt8)) : St := ⟨60, wall 5 ep 0 us, -1, false⟩
/-- How many writes were done behind each. -/
def endsOf (us : List (List UInt8)) : List Nat := (List.range us.length).map fun k => tot (us.take (k + 1))
theorem endsOf_length (us : List (List UInt8)) : (endsOf us).length = us.length := by simp [endsOf]
theorem endsOf_at (us : List (List UInt8)) (k : Nat) (h : k < us.length) : (endsOf us)[k]? = some (tot (us.take (k + 1))) := by simp [endsOf, h]
theorem endsOf_snoc (us : List (List UInt8)) (l : List UInt8) : endsOf (us ++ [l]) = endsOf us ++ [tot (us ++ [l])] := by
  unfold endsOf
  rw [List.length_append, List.length_singleton, List.range_succ, List.map_append]
  congr 1
  · apply List.map_congr_left
    intro k hk
    rw [List.mem_range] at hk
    rw [List.take_append_of_le_length (by omega)]
  · simp only [List.map_cons, List.map_nil]
    rw [List.take_of_length_le (by simp)]
theorem nextS_SC (ep : Nat) (us : List (List UInt8)) (l : List UInt8) : nextS (SC ep us) 5 50 ep us l = SC ep (nextU 50 us l) := by
  unfold nextS nextU
  split
  · unfold SC sj fz
    rw [wall_snoc]
    rfl
  · rfl
/-- Cut, and Open of what it leaves. -/
theorem sy_cut {w0 w : World} {q p : Nat} {s : St} {fr ct ep : Nat} {us : List (List UInt8)} {over : Bool} {X : List Nat} (h : Sy w0 w q p s fr ct ep us over X) (n : Nat) (us2 : List (List UInt8)) (hn : n ≤ s.ws.length) (hb : s.ws.length ≤ 100000) (hA : Ar (s.ws.take n) fr ct ep us2) :
    Calls Try.prog 22 #[.pointer (some ⟨q, 0, none⟩), .int .i64 (n : Int)] w fun e w1 => ∃ q2, e = .returned (.pointer (some ⟨q2, 0, none⟩)) ∧
      Calls Try.prog 10 #[.pointer (some ⟨q2, 0, none⟩), .int .i64 (fr : Int), .int .i64 (ct : Int), .int .u64 (ep : Int)] w1 fun e w2 => ∃ p2, e = .returned (.tuple #[.pointer (some ⟨p2, 0, none⟩), .int .i64 0]) ∧ Sy w0 w2 q2 p2 (cutS s (n : Int)) fr ct ep us2 false [] ∧ Kept [] w w2 := by
  obtain ⟨H, ⟨F, G, rfl, hD, hL, hFG, hA1, ha, hc⟩, hK, hH⟩ := h
  have hcn : cutN s (n : Int) = n := by unfold cutN; omega
  have hA2 : Ar (cutS s (n : Int)).ws fr ct ep us2 := by
    show Ar (s.ws.take (cutN s (n : Int))) fr ct ep us2
    rw [hcn]
    exact hA
  refine (cut_any hD (n : Int) hb).mono fun e w1 ⟨q2, he, G1, hD1, k1, nG⟩ => ⟨q2, he, ?_⟩
  refine (open_ok hD1 rfl hc ha hA2).mono fun e w2 ⟨p2, he2, G2, hL2, k2, nG2⟩ => ⟨p2, he2, ⟨G1 ++ G2, Lg.opened hD1 hL2 k2 nG2 hA2 ha hc, (hK.trans k1 (by simp)).trans k2 (by simp), fun x hx => ⟨?_, by simp⟩⟩, k1.trans k2 (by simp)⟩
  rcases List.mem_append.1 hx with h | h
  · exact Nat.le_trans hK.size (nG x h)
  · have := hK.size; have := k1.size; have := nG2 x h; omega
/-- Units, and same. -/
theorem units_same {w0 w : World} {q p : Nat} {s : St} {fr ct ep : Nat} {us : List (List UInt8)} {over : Bool} {X : List Nat} (h : Sy w0 w q p s fr ct ep us over X) (vb : Value) (hT : ReadsT w vb us) (k : Nat) (hk : us.length = k) :
    Calls Try.prog 19 #[.pointer (some ⟨p, 0, none⟩)] w fun e wa => ∃ g, e = .returned (.slice (some ⟨g, 0, none⟩) k k) ∧
      Calls Try.prog 18 #[.slice (some ⟨g, 0, none⟩) k k, vb] wa fun e wb => e = .returned (.bool true) ∧ Kept [] w wb := by
  subst hk
  refine (sy_units h).mono fun e wa ⟨g, he, hU, ka⟩ => ⟨g, he, ?_⟩
  exact (same_yes hU (hT.kept ka (by simp)) h.len.1).mono fun e wb ⟨he, kb⟩ => ⟨he, ka.trans kb (by simp)⟩

set_option maxRecDepth 100000 in
theorem cuts_long (a : Option Addr) (n c : Nat) (ep : Int) (w : World) (h : 20 < n) : Calls Try.prog 4 #[.slice a n c, .int .u64 ep] w fun e w' => e = .returned (.bool true) ∧ Kept [] w w' := by
  have hn : (20 : Int) < (n : Int) := by omega
  go_enter Try.func4, Try.ntmps4
  go_wp2_with fail
  refine (awake_any w).mono ?_
  rintro e w1 ⟨rfl, k1⟩
  go_wp2_with fail
  refine (awake_any w1).mono ?_
  rintro e w2 ⟨rfl, k2⟩
  have hK := k1.trans k2 (by simp)
  clear k1 k2
  go_wp2
  go_ret
  exact ⟨rfl, hK⟩
/-- What the first loop keeps. -/
structure Cu (w wr : World) (q p ep : Nat) (us : List (List UInt8)) (v8 v9 : Value) : Prop where
  sy : Sy w wr q p (SC ep us) 5 50 ep us false (v8.ownBlock.toList ++ v9.ownBlock.toList)
  t : OwnsT wr v8 us
  i : OwnsI wr v9 (endsOf us)
  t0 : ∀ g, v8.ownBlock = some g → w.heap.size ≤ g
  i0 : ∀ g, v9.ownBlock = some g → w.heap.size ≤ g
  ne : ∀ g, v8.ownBlock = some g → v9.ownBlock ≠ some g
theorem Cu.lt {w wr : World} {q p ep : Nat} {us : List (List UInt8)} {v8 v9 : Value} (h : Cu w wr q p ep us v8 v9) : ∀ x ∈ v8.ownBlock.toList ++ v9.ownBlock.toList, x < wr.heap.size := fun x hx => by
  rcases List.mem_append.1 hx with hx | hx
  · rw [Option.mem_toList] at hx; exact h.t.lt hx
  · rw [Option.mem_toList] at hx; exact h.i.lt hx
/-- A text and an end more. -/
theorem Cu.text {w wr : World} {q p ep : Nat} {us us' : List (List UInt8)} {v8 v9 : Value} {l : List UInt8} (hS : Sy w wr q p (SC ep us') 5 50 ep us' false (v8.ownBlock.toList ++ v9.ownBlock.toList)) (ht : OwnsT wr v8 us) (hi : OwnsI wr v9 (endsOf us)) (t0 : ∀ g, v8.ownBlock = some g → w.heap.size ≤ g) (i0 : ∀ g, v9.ownBlock = some g → w.heap.size ≤ g) (ne : ∀ g, v8.ownBlock = some g → v9.ownBlock ≠ some g) (hus : us' = us ++ [l]) :
    ∃ ad c w1, (Builtin.append_ #[28, 28] 28 #[v8, .slice (some ⟨wr.heap.size, 0, none⟩) 1 1]).run Try.prog (wr.alloc (.cells #[.string ⟨l.toArray⟩] 9)) = .ok (.slice ad (us.length + 1) c) w1 ∧ Calls Try.prog 13 #[.pointer (some ⟨q, 0, none⟩)] w1 (fun e w' => e = .returned (.int .i64 (tot us' : Int)) ∧ w1 = w') ∧
      ∃ ad2 c2 w2, (Builtin.append_ #[49, 49] 49 #[v9, .slice (some ⟨w1.heap.size, 0, none⟩) 1 1]).run Try.prog (w1.alloc (.cells #[.int .i64 (tot us' : Int)] 3)) = .ok (.slice ad2 (us.length + 1) c2) w2 ∧ Cu w w2 q p ep us' (.slice ad (us.length + 1) c) (.slice ad2 (us.length + 1) c2) := by
  have hsz := hS.k.size
  have hlen : us.length ≤ 65536 := by have := hS.len.1; rw [hus, List.length_append] at this; omega
  obtain ⟨ad, c, w1, hrun, hO1, k1, hN1⟩ := append_text ht l hlen
  have hS1 : Sy w w1 q p (SC ep us') 5 50 ep us' false ((Value.slice ad (us.length + 1) c).ownBlock.toList ++ v9.ownBlock.toList) := hS.turn2 k1 (fun y hy => by simp [hy]) (fun y hy => t0 y (by rw [Option.mem_toList] at hy; exact hy)) (fun y hy => by
    rcases List.mem_append.1 hy with hy | hy
    · rw [Option.mem_toList] at hy
      rcases hN1 y hy with h | h
      · exact .inl (by simp [h])
      · exact .inr h
    · exact .inl (by simp [hy]))
  have hi1 : OwnsI w1 v9 (endsOf us) := hi.kept k1 (fun g hg hm => by rw [Option.mem_toList] at hm; exact ne g hm hg)
  have hwr := sy_writes hS1
  rw [show (SC ep us').ws.length = tot us' from wall_length 5 ep us' 0] at hwr
  obtain ⟨ad2, c2, w2, hrun2, hO2, k2, hN2⟩ := append_int hi1 (tot us') (by rw [endsOf_length]; exact hlen)
  rw [endsOf_length] at hrun2 hO2 hN2
  have hs1 := k1.size
  have hne1 : ∀ g, (Value.slice ad (us.length + 1) c).ownBlock = some g → v9.ownBlock ≠ some g := fun g hg h9 => by
    rcases hN1 g hg with h | h
    · exact ne g h h9
    · have := hi.lt h9; omega
  refine ⟨ad, c, w1, hrun, hwr, ad2, c2, w2, hrun2, ⟨?_, ?_, ?_, ?_, ?_, ?_⟩⟩
  · exact hS1.turn2 k2 (fun y hy => by simp [hy]) (fun y hy => i0 y (by rw [Option.mem_toList] at hy; exact hy)) (fun y hy => by
      rcases List.mem_append.1 hy with hy | hy
      · exact .inl (by simp [hy])
      · rw [Option.mem_toList] at hy
        rcases hN2 y hy with h | h
        · exact .inl (by simp [h])
        · exact .inr h)
  · rw [hus]
    exact hO1.kept k2 (fun g hg hm => by rw [Option.mem_toList] at hm; exact hne1 g hg hm)
  · rw [hus] at hO2 ⊢
    rw [endsOf_snoc]
    exact hO2
  · intro g hg
    rcases hN1 g hg with h | h
    · exact t0 g h
    · omega
  · intro g hg
    rcases hN2 g hg with h | h
    · exact i0 g h
    · omega
  · intro g hg h9
    rcases hN2 g h9 with h | h
    · exact hne1 g hg h
    · have := hO1.lt hg; omega

set_option maxRecDepth 100000 in
set_option maxHeartbeats 2000000 in
theorem cuts_walk (v : Value) (ls : List OpL) (ep : Nat) (w : World) (hv : HoldsO w v ls) (hn : ls.length ≤ 20) (he : ep < 18446744073709551616) : Calls Try.prog 4 #[v, .int .u64 (ep : Int)] w fun e w' => e = .returned (.bool true) ∧ Kept [] w w' := by
  have HV := Hid.mk hv
  obtain ⟨a1, c1, rfl, hc1, hm1, -⟩ := hv
  have hm1' : c1 ≤ 9223372036854775807 := hm1
  clear hm1
  have t1 : ¬ (20 : Int) < (ls.length : Int) := by omega
  go_enter Try.func4, Try.ntmps4
  go_wp2_with fail
  refine (awake_any w).mono ?_
  rintro e w0 ⟨rfl, k0⟩
  have hnew := sy_new k0 60 5 50 ep (by omega) (by omega) (by omega) he
  rw [show ((60 : Nat) : Int) = 60 from rfl, show ((5 : Nat) : Int) = 5 from rfl, show ((50 : Nat) : Int) = 50 from rfl] at hnew
  go_wp2_with fail
  refine hnew.mono ?_
  rintro e w1 ⟨q, rfl, hop⟩
  have hop1 := hop w1 (Kept.refl [] w1)
  clear hnew hop
  go_wp2_with fail
  refine hop1.mono ?_
  rintro e w2 ⟨p, rfl, hS, -, -⟩
  have hCu : Cu w w2 q p ep [] (.slice none 0 0) (.slice none 0 0) := ⟨hS, OwnsT.nil _, OwnsI.nil _, by simp [Value.ownBlock], by simp [Value.ownBlock], by simp [Value.ownBlock]⟩
  clear hop1 k0 hS
  go_wp2_with fail
  go_loopw [8, 9, 34] (fun v8 v9 i wr => ∃ (j : Nat) (us : List (List UInt8)), i = .int .i64 (j : Int) ∧ j ≤ ls.length ∧ Cu w wr q p ep us v8 v9) (fun _ _ i _ => ls.length - (intOf i).toNat)
  case atStart => exact ⟨0, [], rfl, Nat.zero_le _, hCu⟩
  case round =>
    clear hCu
    obtain ⟨j, us, rfl, hj, hCu⟩ := hrel
    obtain ⟨av, cv, hve⟩ := hCu.t.form
    subst hve
    obtain ⟨ai, ci, hvi, hci1, hci2⟩ := hCu.i.form
    rw [endsOf_length] at hvi hci1
    subst hvi
    have hslen := hCu.sy.len
    by_cases hlt : j < ls.length
    · have hlt2 : (j : Int) < (ls.length : Int) := by omega
      obtain ⟨x, hx⟩ : ∃ x, ls[j]? = some x := ⟨ls[j], by simp⟩
      obtain ⟨b, o, cap', ab, cb, hve, d0, d1, d2, hrx, hxo⟩ := HV.out.at j x hx hCu.sy.k
      injection hve with e1 e2 e3
      subst e1 e3
      clear e2 hx
      have hcalm : Calm (SC ep us) 50 := ⟨rfl, rfl, by show (wall 5 ep 0 us).length ≤ 50; rw [wall_length]; exact hslen.2.2.1⟩
      have hua := unit_append hCu.sy hcalm (by omega) hCu.lt x hxo ab cb (hrx.kept hCu.sy.k (by simp))
      have HCu := Hid.mk hCu
      clear hCu hrx hxo hcalm
      go_wp2_with fail
      refine hua.mono ?_
      rintro e w3 ⟨a3, c3, rfl, -, -, hap⟩
      clear hua d0 d1 d2
      go_wp2_with fail
      refine hap.mono ?_
      rintro e w4 ⟨rfl, hS4, k4, hr4⟩
      have ht4 := HCu.out.t.keptX k4 (fun g hg => by simp [hg])
      have hi4 := HCu.out.i.keptX k4 (fun g hg => by simp [hg])
      rw [nextS_SC] at hS4
      clear hap k4
      by_cases hE : wrongE us 50 (unitL x).length = 0
      · have hnu : nextU 50 us (unitL x) = us ++ [unitL x] := by unfold nextU; rw [if_pos hE]
        rw [hE]
        obtain ⟨ad, cd, w5, hrun, hwr5, ad2, cd2, w6, hrun2, hC6⟩ := Cu.text hS4 ht4 hi4 HCu.out.t0 HCu.out.i0 HCu.out.ne hnu
        have hst := str35 _ _ w4 hr4
        generalize nextU 50 us (unitL x) = us6 at hwr5 hrun2 hC6
        generalize (⟨(unitL x).toArray⟩ : ByteArray) = T at hrun hst
        generalize (unitL x).length = m at hst
        generalize tot us6 = N6 at hwr5 hrun2
        have HC6 := Hid.mk hC6
        clear hS4 ht4 hi4 hr4 hC6 HCu hnu
        go_wp2_with (at_builtin; refine wpList_append_run 28 _ _ rfl rfl _ _ rfl rfl _ _ hrun ?_)
        refine hwr5.mono ?_
        rintro e w5' ⟨rfl, rfl⟩
        clear hwr5 hrun
        go_wp2_with (at_builtin; refine wpList_append_run 49 _ _ rfl rfl _ _ rfl rfl _ _ hrun2 ?_)
        exact ⟨⟨j + 1, us6, by go_num, by omega, HC6.out⟩, by simp [intOf]; omega⟩
      · have hnu : nextU 50 us (unitL x) = us := by unfold nextU; rw [if_neg hE]
        rw [hnu] at hS4
        have hE2 : (wrongE us 50 (unitL x).length == 0) = false := by simpa using hE
        have HC6 : Hid (Cu w w4 q p ep us (.slice av us.length cv) (.slice ai us.length ci)) := ⟨hS4, ht4, hi4, HCu.out.t0, HCu.out.i0, HCu.out.ne⟩
        generalize wrongE us 50 (unitL x).length = E at hE2
        generalize (unitL x).length = m at hr4
        clear hS4 ht4 hi4 hr4 HCu hnu hE
        go_wp2_with fail
        exact ⟨⟨j + 1, us, by go_num, by omega, HC6.out⟩, by simp [intOf]; omega⟩
    · have hlt2 : ¬ (j : Int) < (ls.length : Int) := by omega
      have hwr := sy_writes hCu.sy
      rw [show (SC ep us).ws.length = tot us from wall_length 5 ep us 0] at hwr
      have HCu := Hid.mk hCu
      have htot : tot us ≤ 50 := hslen.2.2.1
      clear hCu
      obtain ⟨N, hN⟩ : ∃ N, Hid (tot us = N) := ⟨_, rfl⟩
      rw [hN.out] at hwr htot
      go_wp2_with fail
      refine hwr.mono ?_
      rintro e wr' ⟨rfl, rfl⟩
      clear hwr
      go_wp2_with fail
      obtain ⟨wb, hwb⟩ : ∃ wb, wb = wr := ⟨_, rfl⟩
      subst hwb
      go_loopw [60] (fun i wx => ∃ n : Nat, i = .int .i64 (n : Int) ∧ n ≤ N + 1 ∧ Kept [] wb wx) (fun i _ => N + 1 - (intOf i).toNat)
      case atStart => exact ⟨0, rfl, Nat.zero_le _, Kept.refl [] wb⟩
      case round =>
        obtain ⟨n, rfl, hn1, KX1⟩ := hrel
        obtain ⟨wx, hwx⟩ : ∃ wx, wx = wr := ⟨_, rfl⟩
        subst hwx
        by_cases hltn : n < N + 1
        · have hltn2 : (n : Int) < (N : Int) + 1 := by omega
          have HT : Hid (ReadsT wb (.slice av us.length cv) us) := HCu.out.t.reads
          go_wp2_with fail
          go_loopw [13] (fun i wy => ∃ k : Nat, i = .int .i64 (k : Int) ∧ k ≤ us.length ∧ (∀ y, y < k → tot (us.take (y + 1)) ≤ n) ∧ wy = wx) (fun i _ => us.length - (intOf i).toNat)
          case atStart => exact ⟨0, rfl, Nat.zero_le _, fun y hy => by omega, rfl⟩
          case round =>
            obtain ⟨k, rfl, hk, hky, rfl⟩ := hrel
            obtain ⟨wx, hwx⟩ : ∃ wx, wx = wr := ⟨_, rfl⟩
            subst hwx
            have hIx := HCu.out.i.kept KX1 (by simp)
            have hSx := HCu.out.sy.kept KX1
            have hkt : tot (us.take k) ≤ n := by
              cases k with
              | zero => simp [tot]
              | succ k => exact hky k (by omega)
            obtain ⟨asl, csl, hsl, hsT⟩ := slice_texts av cv k us wb HT.out hk
            have htl : (us.take k).length = k := by rw [List.length_take]; omega
            have hunit := hSx.ar.unit
            have hroom := hSx.ar.room
            by_cases hkl : k < us.length
            · have hkl2 : (k : Int) < (us.length : Int) := by omega
              obtain ⟨gi, ci', hvi, hcell⟩ := hIx.at k _ (endsOf_at us k hkl)
              rw [endsOf_length] at hvi
              injection hvi with e1 e2 e3
              subst e1 e3
              clear e2
              by_cases hle : tot (us.take (k + 1)) ≤ n
              · have hle2 : ((tot (us.take (k + 1)) : Nat) : Int) ≤ (n : Int) := by omega
                have HKY : Hid (∀ y, y < k + 1 → tot (us.take (y + 1)) ≤ n) := fun y hy => by
                  by_cases h : y < k
                  · exact hky y h
                  · have : y = k := by omega
                    rw [this]; exact hle
                generalize tot (us.take (k + 1)) = N1 at hcell hle2
                clear hky hSx hIx hsT hsl hle
                go_wp2_with fail
                exact ⟨⟨k + 1, by go_num, by omega, HKY.out, by first | rfl | trivial⟩, by simp [intOf]; omega⟩
              · have hle2 : ¬ ((tot (us.take (k + 1)) : Nat) : Int) ≤ (n : Int) := by omega
                have hAr : Ar ((SC ep us).ws.take n) 5 50 ep (us.take k) := cut_ar 5 50 ep (by omega) he us hunit hroom n k hk hkt (fun _ => by omega) (by rw [hN.out]; omega)
                generalize tot (us.take (k + 1)) = N1 at hcell hle2 hle
                by_cases hk0 : k = 0
                · subst hk0
                  rw [show ((0 : Nat) : Int) = 0 from rfl] at hsl hkl2 ⊢
                  by_cases hn0 : n = 0
                  · subst hn0
                    rw [show ((0 : Nat) : Int) = 0 from rfl] at hle2 hltn2 ⊢
                    have hop := sy_cut hSx 0 (us.take 0) (by show 0 ≤ (wall 5 ep 0 us).length; rw [wall_length, hN.out]; omega) (by show (wall 5 ep 0 us).length ≤ 100000; rw [wall_length, hN.out]; omega) hAr
                    rw [show ((5 : Nat) : Int) = 5 from rfl, show ((50 : Nat) : Int) = 50 from rfl, show ((0 : Nat) : Int) = 0 from rfl] at hop
                    clear hSx hAr hIx
                    go_wp2_with fail
                    refine hop.mono ?_
                    rintro e w5 ⟨q2, rfl, hop2⟩
                    clear hop
                    go_wp2_with fail
                    refine hop2.mono ?_
                    rintro e w6 ⟨p2, rfl, hS6, k6⟩
                    have hcx6 : ∀ y, wx.cell? ⟨gi, y, none⟩ ≠ none → w6.cell? ⟨gi, y, none⟩ = wx.cell? ⟨gi, y, none⟩ := fun y hy => by
                      obtain ⟨z, hz⟩ := Option.ne_none_iff_exists'.1 hy
                      exact k6.cell (World.block_lt_of_cell? _ _ hz) (by simp)
                    have KK6 := KX1.trans k6 (by simp)
                    have hT6 := hsT w6 (HT.out.kept KK6 (by simp))
                    have hS6d := hS6.kept (Kept.refl [] w6).drew
                    have huns := units_same hS6d _ (hT6.kept (Kept.refl [] w6).drew (by simp)) 0 htl
                    have HK6 := Hid.mk KK6
                    clear hop2 hS6 hS6d hT6 k6 hcx6
                    go_wp2_with fail
                    refine wp_region_any (by kernel_rfl) ?_
                    change wpAny _ _ _ _ _ _ _ (World.drew _)
                    refine wpAny_take (i := 0) (v := .int .i64 0) rfl (by kernel_rfl) (by kernel_rfl) (by kernel_rfl) (fun _ _ _ h => h) (Or.inl ⟨by rfl, fun w => by go_simp⟩) ?_
                    go_simp
                    refine wpAny_take (i := 1) (v := .bool false) rfl (by kernel_rfl) (by kernel_rfl) (by kernel_rfl) (fun _ _ _ h => h) (Or.inl ⟨by rfl, fun w => by go_simp⟩) ?_
                    go_simp
                    refine wpAny_take (i := 2) (v := .bool false) rfl (by kernel_rfl) (by kernel_rfl) (by kernel_rfl) (fun _ _ _ h => h) (Or.inl ⟨by rfl, fun w => by go_simp⟩) ?_
                    go_simp
                    refine wpAny_take (i := 3) (v := .pointer (some ⟨p2, 0, none⟩)) rfl (by kernel_rfl) (by kernel_rfl) (by kernel_rfl) (fun _ _ _ h => h) (Or.inl ⟨by rfl, fun w => by go_simp⟩) ?_
                    go_simp
                    refine wpAny_take (i := 5) (v := .slice av us.length cv) rfl (by kernel_rfl) (by kernel_rfl) (by kernel_rfl) (fun _ _ _ h => h) (Or.inl ⟨by rfl, fun w => by go_simp⟩) ?_
                    go_simp
                    refine wpAny_take (i := 6) (v := .int .i64 0) rfl (by kernel_rfl) (by kernel_rfl) (by kernel_rfl) (fun _ _ _ h => h) (Or.inl ⟨by rfl, fun w => by go_simp⟩) ?_
                    go_simp
                    refine wpAny_take (i := 7) (v := .slice asl 0 csl) rfl (by kernel_rfl) (by kernel_rfl) (by kernel_rfl) (fun _ _ _ h => h) (Or.inl ⟨by rfl, fun w => by go_simp⟩) ?_
                    go_simp
                    refine wpAny_ready (rs := [4]) (by kernel_rfl) (by simp) (AllReady.cons rfl (fun K hK => ?_) AllReady.nil)
                    go_simp
                    refine huns.mono ?_
                    rintro e w7 ⟨g7, rfl, hsm⟩
                    refine hK _ _ ?_
                    clear hK K huns
                    go_simp
                    refine wpAny_ready (rs := [8]) (by kernel_rfl) (by simp) (AllReady.cons rfl (fun K hK => ?_) AllReady.nil)
                    go_simp
                    refine hsm.mono ?_
                    rintro e w8 ⟨rfl, k8⟩
                    refine hK _ _ ?_
                    clear hK K hsm
                    go_simp
                    refine wpAny_take (i := 9) (v := .bool false) rfl (by kernel_rfl) (by kernel_rfl) (by kernel_rfl) (fun _ _ _ h => h) (Or.inl ⟨by rfl, fun w => by go_simp⟩) ?_
                    go_simp
                    refine wpAny_take (i := 10) (v := .bool false) rfl (by kernel_rfl) (by kernel_rfl) (by kernel_rfl) (fun _ _ _ h => h) (Or.inl ⟨by rfl, fun w => by go_simp⟩) ?_
                    go_simp
                    refine wpAny_take (i := 11) (v := undef) rfl (by kernel_rfl) (by kernel_rfl) (by kernel_rfl) (fun _ _ _ h => h) (Or.inr ⟨by rfl, rfl⟩) ?_
                    go_simp
                    refine wpAny_take (i := 12) (v := undef) rfl (by kernel_rfl) (by kernel_rfl) (by kernel_rfl) (fun _ _ _ h => h) (Or.inr ⟨by rfl, rfl⟩) ?_
                    go_simp
                    refine wpAny_take (i := 13) (v := undef) rfl (by kernel_rfl) (by kernel_rfl) (by kernel_rfl) (fun _ _ _ h => h) (Or.inr ⟨by rfl, rfl⟩) ?_
                    go_simp
                    refine wpAny_take (i := 14) (v := undef) rfl (by kernel_rfl) (by kernel_rfl) (by kernel_rfl) (fun _ _ _ h => h) (Or.inr ⟨by rfl, rfl⟩) ?_
                    go_simp
                    refine wpAny_take (i := 15) (v := undef) rfl (by kernel_rfl) (by kernel_rfl) (by kernel_rfl) (fun _ _ _ h => h) (Or.inr ⟨by rfl, rfl⟩) ?_
                    go_simp
                    refine wpAny_take (i := 16) (v := undef) rfl (by kernel_rfl) (by kernel_rfl) (by kernel_rfl) (fun _ _ _ h => h) (Or.inr ⟨by rfl, rfl⟩) ?_
                    go_simp
                    refine wpAny_take (i := 17) (v := undef) rfl (by kernel_rfl) (by kernel_rfl) (by kernel_rfl) (fun _ _ _ h => h) (Or.inr ⟨by rfl, rfl⟩) ?_
                    go_simp
                    refine wpAny_take (i := 18) (v := undef) rfl (by kernel_rfl) (by kernel_rfl) (by kernel_rfl) (fun _ _ _ h => h) (Or.inr ⟨by rfl, rfl⟩) ?_
                    go_simp
                    refine wpAny_take (i := 19) (v := undef) rfl (by kernel_rfl) (by kernel_rfl) (by kernel_rfl) (fun _ _ _ h => h) (Or.inr ⟨by rfl, rfl⟩) ?_
                    go_simp
                    refine wpAny_take (i := 20) (v := undef) rfl (by kernel_rfl) (by kernel_rfl) (by kernel_rfl) (fun _ _ _ h => h) (Or.inr ⟨by rfl, rfl⟩) ?_
                    go_simp
                    refine wpAny_take (i := 21) (v := undef) rfl (by kernel_rfl) (by kernel_rfl) (by kernel_rfl) (fun _ _ _ h => h) (Or.inr ⟨by rfl, rfl⟩) ?_
                    go_simp
                    refine wpAny_take (i := 22) (v := .bool false) rfl (by kernel_rfl) (by kernel_rfl) (by kernel_rfl) (fun _ _ _ h => h) (Or.inl ⟨by rfl, fun w => by go_simp⟩) ?_
                    go_simp
                    refine wpAny_take (i := 23) (v := .bool false) rfl (by kernel_rfl) (by kernel_rfl) (by kernel_rfl) (fun _ _ _ h => h) (Or.inl ⟨by rfl, fun w => by go_simp⟩) ?_
                    go_simp
                    refine wpAny_done (by kernel_rfl) ?_ _
                    have HK8 : Hid (Kept [] wb w8) := (HK6.out.drew).trans k8 (by simp)
                    clear k8 HK6
                    go_wp2_with fail
                    exact ⟨⟨0 + 1, by go_num, by omega, HK8.out⟩, by simp [intOf]⟩
                  · have hn02 : (0 : Int) < (n : Int) := by omega
                    clear hn0
                    have hop := sy_cut hSx n (us.take 0) (by show n ≤ (wall 5 ep 0 us).length; rw [wall_length, hN.out]; omega) (by show (wall 5 ep 0 us).length ≤ 100000; rw [wall_length, hN.out]; omega) hAr
                    rw [show ((5 : Nat) : Int) = 5 from rfl, show ((50 : Nat) : Int) = 50 from rfl] at hop
                    clear hSx hAr hIx
                    go_wp2_with fail
                    refine hop.mono ?_
                    rintro e w5 ⟨q2, rfl, hop2⟩
                    clear hop
                    go_wp2_with fail
                    refine hop2.mono ?_
                    rintro e w6 ⟨p2, rfl, hS6, k6⟩
                    have hcx6 : ∀ y, wx.cell? ⟨gi, y, none⟩ ≠ none → w6.cell? ⟨gi, y, none⟩ = wx.cell? ⟨gi, y, none⟩ := fun y hy => by
                      obtain ⟨z, hz⟩ := Option.ne_none_iff_exists'.1 hy
                      exact k6.cell (World.block_lt_of_cell? _ _ hz) (by simp)
                    have KK6 := KX1.trans k6 (by simp)
                    have hT6 := hsT w6 (HT.out.kept KK6 (by simp))
                    have hS6d := hS6.kept (Kept.refl [] w6).drew
                    have huns := units_same hS6d _ (hT6.kept (Kept.refl [] w6).drew (by simp)) 0 htl
                    have HK6 := Hid.mk KK6
                    clear hop2 hS6 hS6d hT6 k6 hcx6
                    go_wp2_with fail
                    refine wp_region_any (by kernel_rfl) ?_
                    change wpAny _ _ _ _ _ _ _ (World.drew _)
                    refine wpAny_take (i := 0) (v := .int .i64 0) rfl (by kernel_rfl) (by kernel_rfl) (by kernel_rfl) (fun _ _ _ h => h) (Or.inl ⟨by rfl, fun w => by go_simp⟩) ?_
                    go_simp
                    refine wpAny_take (i := 1) (v := .bool false) rfl (by kernel_rfl) (by kernel_rfl) (by kernel_rfl) (fun _ _ _ h => h) (Or.inl ⟨by rfl, fun w => by go_simp⟩) ?_
                    go_simp
                    refine wpAny_take (i := 2) (v := .bool false) rfl (by kernel_rfl) (by kernel_rfl) (by kernel_rfl) (fun _ _ _ h => h) (Or.inl ⟨by rfl, fun w => by go_simp⟩) ?_
                    go_simp
                    refine wpAny_take (i := 3) (v := .pointer (some ⟨p2, 0, none⟩)) rfl (by kernel_rfl) (by kernel_rfl) (by kernel_rfl) (fun _ _ _ h => h) (Or.inl ⟨by rfl, fun w => by go_simp⟩) ?_
                    go_simp
                    refine wpAny_take (i := 5) (v := .slice av us.length cv) rfl (by kernel_rfl) (by kernel_rfl) (by kernel_rfl) (fun _ _ _ h => h) (Or.inl ⟨by rfl, fun w => by go_simp⟩) ?_
                    go_simp
                    refine wpAny_take (i := 6) (v := .int .i64 0) rfl (by kernel_rfl) (by kernel_rfl) (by kernel_rfl) (fun _ _ _ h => h) (Or.inl ⟨by rfl, fun w => by go_simp⟩) ?_
                    go_simp
                    refine wpAny_take (i := 7) (v := .slice asl 0 csl) rfl (by kernel_rfl) (by kernel_rfl) (by kernel_rfl) (fun _ _ _ h => h) (Or.inl ⟨by rfl, fun w => by go_simp⟩) ?_
                    go_simp
                    refine wpAny_ready (rs := [4]) (by kernel_rfl) (by simp) (AllReady.cons rfl (fun K hK => ?_) AllReady.nil)
                    go_simp
                    refine huns.mono ?_
                    rintro e w7 ⟨g7, rfl, hsm⟩
                    refine hK _ _ ?_
                    clear hK K huns
                    go_simp
                    refine wpAny_ready (rs := [8]) (by kernel_rfl) (by simp) (AllReady.cons rfl (fun K hK => ?_) AllReady.nil)
                    go_simp
                    refine hsm.mono ?_
                    rintro e w8 ⟨rfl, k8⟩
                    refine hK _ _ ?_
                    clear hK K hsm
                    go_simp
                    refine wpAny_take (i := 9) (v := .bool false) rfl (by kernel_rfl) (by kernel_rfl) (by kernel_rfl) (fun _ _ _ h => h) (Or.inl ⟨by rfl, fun w => by go_simp⟩) ?_
                    go_simp
                    refine wpAny_take (i := 10) (v := .bool false) rfl (by kernel_rfl) (by kernel_rfl) (by kernel_rfl) (fun _ _ _ h => h) (Or.inl ⟨by rfl, fun w => by go_simp⟩) ?_
                    go_simp
                    refine wpAny_take (i := 11) (v := undef) rfl (by kernel_rfl) (by kernel_rfl) (by kernel_rfl) (fun _ _ _ h => h) (Or.inr ⟨by rfl, rfl⟩) ?_
                    go_simp
                    refine wpAny_take (i := 12) (v := undef) rfl (by kernel_rfl) (by kernel_rfl) (by kernel_rfl) (fun _ _ _ h => h) (Or.inr ⟨by rfl, rfl⟩) ?_
                    go_simp
                    refine wpAny_take (i := 13) (v := undef) rfl (by kernel_rfl) (by kernel_rfl) (by kernel_rfl) (fun _ _ _ h => h) (Or.inr ⟨by rfl, rfl⟩) ?_
                    go_simp
                    refine wpAny_take (i := 14) (v := undef) rfl (by kernel_rfl) (by kernel_rfl) (by kernel_rfl) (fun _ _ _ h => h) (Or.inr ⟨by rfl, rfl⟩) ?_
                    go_simp
                    refine wpAny_take (i := 15) (v := undef) rfl (by kernel_rfl) (by kernel_rfl) (by kernel_rfl) (fun _ _ _ h => h) (Or.inr ⟨by rfl, rfl⟩) ?_
                    go_simp
                    refine wpAny_take (i := 16) (v := undef) rfl (by kernel_rfl) (by kernel_rfl) (by kernel_rfl) (fun _ _ _ h => h) (Or.inr ⟨by rfl, rfl⟩) ?_
                    go_simp
                    refine wpAny_take (i := 17) (v := undef) rfl (by kernel_rfl) (by kernel_rfl) (by kernel_rfl) (fun _ _ _ h => h) (Or.inr ⟨by rfl, rfl⟩) ?_
                    go_simp
                    refine wpAny_take (i := 18) (v := undef) rfl (by kernel_rfl) (by kernel_rfl) (by kernel_rfl) (fun _ _ _ h => h) (Or.inr ⟨by rfl, rfl⟩) ?_
                    go_simp
                    refine wpAny_take (i := 19) (v := undef) rfl (by kernel_rfl) (by kernel_rfl) (by kernel_rfl) (fun _ _ _ h => h) (Or.inr ⟨by rfl, rfl⟩) ?_
                    go_simp
                    refine wpAny_take (i := 20) (v := undef) rfl (by kernel_rfl) (by kernel_rfl) (by kernel_rfl) (fun _ _ _ h => h) (Or.inr ⟨by rfl, rfl⟩) ?_
                    go_simp
                    refine wpAny_take (i := 21) (v := undef) rfl (by kernel_rfl) (by kernel_rfl) (by kernel_rfl) (fun _ _ _ h => h) (Or.inr ⟨by rfl, rfl⟩) ?_
                    go_simp
                    refine wpAny_take (i := 22) (v := .bool false) rfl (by kernel_rfl) (by kernel_rfl) (by kernel_rfl) (fun _ _ _ h => h) (Or.inl ⟨by rfl, fun w => by go_simp⟩) ?_
                    go_simp
                    refine wpAny_take (i := 23) (v := .bool false) rfl (by kernel_rfl) (by kernel_rfl) (by kernel_rfl) (fun _ _ _ h => h) (Or.inl ⟨by rfl, fun w => by go_simp⟩) ?_
                    go_simp
                    refine wpAny_done (by kernel_rfl) ?_ _
                    have HK8 : Hid (Kept [] wb w8) := (HK6.out.drew).trans k8 (by simp)
                    clear k8 HK6
                    go_wp2_with fail
                    exact ⟨⟨n + 1, by go_num, by omega, HK8.out⟩, by simp [intOf]; omega⟩
                · have hk02 : ((k : Int) == 0) = false := by simp; omega
                  have hk03 : (0 : Int) < (k : Int) := by omega
                  obtain ⟨gj, cj', hvj, hcelj⟩ := hIx.at (k - 1) _ (endsOf_at us (k - 1) (by omega))
                  injection hvj with e1 e2 e3
                  injection e1 with e1
                  injection e1 with e1
                  subst e1
                  clear e2 e3
                  rw [show k - 1 + 1 = k by omega] at hcelj
                  obtain ⟨k1, hk1⟩ : ∃ k1, Hid (k - 1 = k1) := ⟨_, rfl⟩
                  rw [hk1.out] at hcelj
                  have hkm : (k : Int) - 1 = (k1 : Int) := by have := hk1.out; omega
                  have hk1l : (k1 : Int) < (us.length : Int) := by have := hk1.out; omega
                  by_cases hgt : tot (us.take k) < n
                  · have hgt2 : ((tot (us.take k) : Nat) : Int) < (n : Int) := by omega
                    have hop := sy_cut hSx n (us.take k) (by show n ≤ (wall 5 ep 0 us).length; rw [wall_length, hN.out]; omega) (by show (wall 5 ep 0 us).length ≤ 100000; rw [wall_length, hN.out]; omega) hAr
                    rw [show ((5 : Nat) : Int) = 5 from rfl, show ((50 : Nat) : Int) = 50 from rfl] at hop
                    clear hSx hAr hIx
                    go_wp2_with fail
                    refine hop.mono ?_
                    rintro e w5 ⟨q2, rfl, hop2⟩
                    clear hop
                    go_wp2_with fail
                    refine hop2.mono ?_
                    rintro e w6 ⟨p2, rfl, hS6, k6⟩
                    have hcx6 : ∀ y, wx.cell? ⟨gi, y, none⟩ ≠ none → w6.cell? ⟨gi, y, none⟩ = wx.cell? ⟨gi, y, none⟩ := fun y hy => by
                      obtain ⟨z, hz⟩ := Option.ne_none_iff_exists'.1 hy
                      exact k6.cell (World.block_lt_of_cell? _ _ hz) (by simp)
                    have KK6 := KX1.trans k6 (by simp)
                    have hT6 := hsT w6 (HT.out.kept KK6 (by simp))
                    have hS6d := hS6.kept (Kept.refl [] w6).drew
                    have huns := units_same hS6d _ (hT6.kept (Kept.refl [] w6).drew (by simp)) k htl
                    have HK6 := Hid.mk KK6
                    have c6 : w6.cell? ⟨gi, k1, none⟩ = some (.int .i64 ((tot (us.take k) : Nat) : Int)) := (hcx6 k1 (by rw [hcelj]; simp)).trans hcelj
                    generalize tot (us.take k) = N2 at c6 hgt2
                    clear hop2 hS6 hS6d hT6 k6 hcx6
                    go_wp2_with fail
                    refine wp_region_any (by kernel_rfl) ?_
                    change wpAny _ _ _ _ _ _ _ (World.drew _)
                    refine wpAny_take (i := 0) (v := .int .i64 0) rfl (by kernel_rfl) (by kernel_rfl) (by kernel_rfl) (fun _ _ _ h => h) (Or.inl ⟨by rfl, fun w => by go_simp⟩) ?_
                    go_simp
                    refine wpAny_take (i := 1) (v := .bool false) rfl (by kernel_rfl) (by kernel_rfl) (by kernel_rfl) (fun _ _ _ h => h) (Or.inl ⟨by rfl, fun w => by go_simp⟩) ?_
                    go_simp
                    refine wpAny_take (i := 2) (v := .bool false) rfl (by kernel_rfl) (by kernel_rfl) (by kernel_rfl) (fun _ _ _ h => h) (Or.inl ⟨by rfl, fun w => by go_simp⟩) ?_
                    go_simp
                    refine wpAny_take (i := 3) (v := .pointer (some ⟨p2, 0, none⟩)) rfl (by kernel_rfl) (by kernel_rfl) (by kernel_rfl) (fun _ _ _ h => h) (Or.inl ⟨by rfl, fun w => by go_simp⟩) ?_
                    go_simp
                    refine wpAny_take (i := 5) (v := .slice av us.length cv) rfl (by kernel_rfl) (by kernel_rfl) (by kernel_rfl) (fun _ _ _ h => h) (Or.inl ⟨by rfl, fun w => by go_simp⟩) ?_
                    go_simp
                    refine wpAny_take (i := 6) (v := .int .i64 (k : Int)) rfl (by kernel_rfl) (by kernel_rfl) (by kernel_rfl) (fun _ _ _ h => h) (Or.inl ⟨by rfl, fun w => by go_simp⟩) ?_
                    go_simp
                    refine wpAny_take (i := 7) (v := .slice asl k csl) rfl (by kernel_rfl) (by kernel_rfl) (by kernel_rfl) (fun _ _ _ h => h) (Or.inl ⟨by rfl, fun w => by go_simp⟩) ?_
                    go_simp
                    refine wpAny_ready (rs := [4]) (by kernel_rfl) (by simp) (AllReady.cons rfl (fun K hK => ?_) AllReady.nil)
                    go_simp
                    refine huns.mono ?_
                    rintro e w7 ⟨g7, rfl, hsm⟩
                    refine hK _ _ ?_
                    clear hK K huns
                    go_simp
                    refine wpAny_ready (rs := [8]) (by kernel_rfl) (by simp) (AllReady.cons rfl (fun K hK => ?_) AllReady.nil)
                    go_simp
                    refine hsm.mono ?_
                    rintro e w8 ⟨rfl, k8⟩
                    refine hK _ _ ?_
                    clear hK K hsm
                    go_simp
                    refine wpAny_take (i := 9) (v := .bool false) rfl (by kernel_rfl) (by kernel_rfl) (by kernel_rfl) (fun _ _ _ h => h) (Or.inl ⟨by rfl, fun w => by go_simp⟩) ?_
                    go_simp
                    refine wpAny_take (i := 10) (v := .bool false) rfl (by kernel_rfl) (by kernel_rfl) (by kernel_rfl) (fun _ _ _ h => h) (Or.inl ⟨by rfl, fun w => by go_simp⟩) ?_
                    go_simp
                    refine wpAny_take (i := 11) (v := undef) rfl (by kernel_rfl) (by kernel_rfl) (by kernel_rfl) (fun _ _ _ h => h) (Or.inr ⟨by rfl, rfl⟩) ?_
                    go_simp
                    refine wpAny_take (i := 12) (v := undef) rfl (by kernel_rfl) (by kernel_rfl) (by kernel_rfl) (fun _ _ _ h => h) (Or.inr ⟨by rfl, rfl⟩) ?_
                    go_simp
                    refine wpAny_take (i := 13) (v := undef) rfl (by kernel_rfl) (by kernel_rfl) (by kernel_rfl) (fun _ _ _ h => h) (Or.inr ⟨by rfl, rfl⟩) ?_
                    go_simp
                    refine wpAny_take (i := 14) (v := undef) rfl (by kernel_rfl) (by kernel_rfl) (by kernel_rfl) (fun _ _ _ h => h) (Or.inr ⟨by rfl, rfl⟩) ?_
                    go_simp
                    refine wpAny_take (i := 15) (v := undef) rfl (by kernel_rfl) (by kernel_rfl) (by kernel_rfl) (fun _ _ _ h => h) (Or.inr ⟨by rfl, rfl⟩) ?_
                    go_simp
                    refine wpAny_take (i := 16) (v := undef) rfl (by kernel_rfl) (by kernel_rfl) (by kernel_rfl) (fun _ _ _ h => h) (Or.inr ⟨by rfl, rfl⟩) ?_
                    go_simp
                    refine wpAny_take (i := 17) (v := undef) rfl (by kernel_rfl) (by kernel_rfl) (by kernel_rfl) (fun _ _ _ h => h) (Or.inr ⟨by rfl, rfl⟩) ?_
                    go_simp
                    refine wpAny_take (i := 18) (v := undef) rfl (by kernel_rfl) (by kernel_rfl) (by kernel_rfl) (fun _ _ _ h => h) (Or.inr ⟨by rfl, rfl⟩) ?_
                    go_simp
                    refine wpAny_take (i := 19) (v := undef) rfl (by kernel_rfl) (by kernel_rfl) (by kernel_rfl) (fun _ _ _ h => h) (Or.inr ⟨by rfl, rfl⟩) ?_
                    go_simp
                    refine wpAny_take (i := 20) (v := undef) rfl (by kernel_rfl) (by kernel_rfl) (by kernel_rfl) (fun _ _ _ h => h) (Or.inr ⟨by rfl, rfl⟩) ?_
                    go_simp
                    refine wpAny_take (i := 21) (v := undef) rfl (by kernel_rfl) (by kernel_rfl) (by kernel_rfl) (fun _ _ _ h => h) (Or.inr ⟨by rfl, rfl⟩) ?_
                    go_simp
                    refine wpAny_take (i := 22) (v := .bool false) rfl (by kernel_rfl) (by kernel_rfl) (by kernel_rfl) (fun _ _ _ h => h) (Or.inl ⟨by rfl, fun w => by go_simp⟩) ?_
                    go_simp
                    refine wpAny_take (i := 23) (v := .bool false) rfl (by kernel_rfl) (by kernel_rfl) (by kernel_rfl) (fun _ _ _ h => h) (Or.inl ⟨by rfl, fun w => by go_simp⟩) ?_
                    go_simp
                    refine wpAny_done (by kernel_rfl) ?_ _
                    have HK8 : Hid (Kept [] wb w8) := (HK6.out.drew).trans k8 (by simp)
                    clear k8 HK6
                    go_wp2_with fail
                    exact ⟨⟨n + 1, by go_num, by omega, HK8.out⟩, by simp [intOf]; omega⟩
                  · have hgt2 : ¬ ((tot (us.take k) : Nat) : Int) < (n : Int) := by omega
                    have hop := sy_cut hSx n (us.take k) (by show n ≤ (wall 5 ep 0 us).length; rw [wall_length, hN.out]; omega) (by show (wall 5 ep 0 us).length ≤ 100000; rw [wall_length, hN.out]; omega) hAr
                    rw [show ((5 : Nat) : Int) = 5 from rfl, show ((50 : Nat) : Int) = 50 from rfl] at hop
                    clear hSx hAr hIx
                    go_wp2_with fail
                    refine hop.mono ?_
                    rintro e w5 ⟨q2, rfl, hop2⟩
                    clear hop
                    go_wp2_with fail
                    refine hop2.mono ?_
                    rintro e w6 ⟨p2, rfl, hS6, k6⟩
                    have hcx6 : ∀ y, wx.cell? ⟨gi, y, none⟩ ≠ none → w6.cell? ⟨gi, y, none⟩ = wx.cell? ⟨gi, y, none⟩ := fun y hy => by
                      obtain ⟨z, hz⟩ := Option.ne_none_iff_exists'.1 hy
                      exact k6.cell (World.block_lt_of_cell? _ _ hz) (by simp)
                    have KK6 := KX1.trans k6 (by simp)
                    have hT6 := hsT w6 (HT.out.kept KK6 (by simp))
                    have hS6d := hS6.kept (Kept.refl [] w6).drew
                    have huns := units_same hS6d _ (hT6.kept (Kept.refl [] w6).drew (by simp)) k htl
                    have HK6 := Hid.mk KK6
                    have c6 : w6.cell? ⟨gi, k1, none⟩ = some (.int .i64 ((tot (us.take k) : Nat) : Int)) := (hcx6 k1 (by rw [hcelj]; simp)).trans hcelj
                    generalize tot (us.take k) = N2 at c6 hgt2
                    clear hop2 hS6 hS6d hT6 k6 hcx6
                    go_wp2_with fail
                    refine wp_region_any (by kernel_rfl) ?_
                    change wpAny _ _ _ _ _ _ _ (World.drew _)
                    refine wpAny_take (i := 0) (v := .int .i64 0) rfl (by kernel_rfl) (by kernel_rfl) (by kernel_rfl) (fun _ _ _ h => h) (Or.inl ⟨by rfl, fun w => by go_simp⟩) ?_
                    go_simp
                    refine wpAny_take (i := 1) (v := .bool false) rfl (by kernel_rfl) (by kernel_rfl) (by kernel_rfl) (fun _ _ _ h => h) (Or.inl ⟨by rfl, fun w => by go_simp⟩) ?_
                    go_simp
                    refine wpAny_take (i := 2) (v := .bool false) rfl (by kernel_rfl) (by kernel_rfl) (by kernel_rfl) (fun _ _ _ h => h) (Or.inl ⟨by rfl, fun w => by go_simp⟩) ?_
                    go_simp
                    refine wpAny_take (i := 3) (v := .pointer (some ⟨p2, 0, none⟩)) rfl (by kernel_rfl) (by kernel_rfl) (by kernel_rfl) (fun _ _ _ h => h) (Or.inl ⟨by rfl, fun w => by go_simp⟩) ?_
                    go_simp
                    refine wpAny_take (i := 5) (v := .slice av us.length cv) rfl (by kernel_rfl) (by kernel_rfl) (by kernel_rfl) (fun _ _ _ h => h) (Or.inl ⟨by rfl, fun w => by go_simp⟩) ?_
                    go_simp
                    refine wpAny_take (i := 6) (v := .int .i64 (k : Int)) rfl (by kernel_rfl) (by kernel_rfl) (by kernel_rfl) (fun _ _ _ h => h) (Or.inl ⟨by rfl, fun w => by go_simp⟩) ?_
                    go_simp
                    refine wpAny_take (i := 7) (v := .slice asl k csl) rfl (by kernel_rfl) (by kernel_rfl) (by kernel_rfl) (fun _ _ _ h => h) (Or.inl ⟨by rfl, fun w => by go_simp⟩) ?_
                    go_simp
                    refine wpAny_ready (rs := [4]) (by kernel_rfl) (by simp) (AllReady.cons rfl (fun K hK => ?_) AllReady.nil)
                    go_simp
                    refine huns.mono ?_
                    rintro e w7 ⟨g7, rfl, hsm⟩
                    refine hK _ _ ?_
                    clear hK K huns
                    go_simp
                    refine wpAny_ready (rs := [8]) (by kernel_rfl) (by simp) (AllReady.cons rfl (fun K hK => ?_) AllReady.nil)
                    go_simp
                    refine hsm.mono ?_
                    rintro e w8 ⟨rfl, k8⟩
                    refine hK _ _ ?_
                    clear hK K hsm
                    go_simp
                    refine wpAny_take (i := 9) (v := .bool false) rfl (by kernel_rfl) (by kernel_rfl) (by kernel_rfl) (fun _ _ _ h => h) (Or.inl ⟨by rfl, fun w => by go_simp⟩) ?_
                    go_simp
                    refine wpAny_take (i := 10) (v := .bool false) rfl (by kernel_rfl) (by kernel_rfl) (by kernel_rfl) (fun _ _ _ h => h) (Or.inl ⟨by rfl, fun w => by go_simp⟩) ?_
                    go_simp
                    refine wpAny_take (i := 11) (v := undef) rfl (by kernel_rfl) (by kernel_rfl) (by kernel_rfl) (fun _ _ _ h => h) (Or.inr ⟨by rfl, rfl⟩) ?_
                    go_simp
                    refine wpAny_take (i := 12) (v := undef) rfl (by kernel_rfl) (by kernel_rfl) (by kernel_rfl) (fun _ _ _ h => h) (Or.inr ⟨by rfl, rfl⟩) ?_
                    go_simp
                    refine wpAny_take (i := 13) (v := undef) rfl (by kernel_rfl) (by kernel_rfl) (by kernel_rfl) (fun _ _ _ h => h) (Or.inr ⟨by rfl, rfl⟩) ?_
                    go_simp
                    refine wpAny_take (i := 14) (v := undef) rfl (by kernel_rfl) (by kernel_rfl) (by kernel_rfl) (fun _ _ _ h => h) (Or.inr ⟨by rfl, rfl⟩) ?_
                    go_simp
                    refine wpAny_take (i := 15) (v := undef) rfl (by kernel_rfl) (by kernel_rfl) (by kernel_rfl) (fun _ _ _ h => h) (Or.inr ⟨by rfl, rfl⟩) ?_
                    go_simp
                    refine wpAny_take (i := 16) (v := undef) rfl (by kernel_rfl) (by kernel_rfl) (by kernel_rfl) (fun _ _ _ h => h) (Or.inr ⟨by rfl, rfl⟩) ?_
                    go_simp
                    refine wpAny_take (i := 17) (v := undef) rfl (by kernel_rfl) (by kernel_rfl) (by kernel_rfl) (fun _ _ _ h => h) (Or.inr ⟨by rfl, rfl⟩) ?_
                    go_simp
                    refine wpAny_take (i := 18) (v := undef) rfl (by kernel_rfl) (by kernel_rfl) (by kernel_rfl) (fun _ _ _ h => h) (Or.inr ⟨by rfl, rfl⟩) ?_
                    go_simp
                    refine wpAny_take (i := 19) (v := undef) rfl (by kernel_rfl) (by kernel_rfl) (by kernel_rfl) (fun _ _ _ h => h) (Or.inr ⟨by rfl, rfl⟩) ?_
                    go_simp
                    refine wpAny_take (i := 20) (v := undef) rfl (by kernel_rfl) (by kernel_rfl) (by kernel_rfl) (fun _ _ _ h => h) (Or.inr ⟨by rfl, rfl⟩) ?_
                    go_simp
                    refine wpAny_take (i := 21) (v := undef) rfl (by kernel_rfl) (by kernel_rfl) (by kernel_rfl) (fun _ _ _ h => h) (Or.inr ⟨by rfl, rfl⟩) ?_
                    go_simp
                    refine wpAny_take (i := 22) (v := .bool false) rfl (by kernel_rfl) (by kernel_rfl) (by kernel_rfl) (fun _ _ _ h => h) (Or.inl ⟨by rfl, fun w => by go_simp⟩) ?_
                    go_simp
                    refine wpAny_take (i := 23) (v := .bool false) rfl (by kernel_rfl) (by kernel_rfl) (by kernel_rfl) (fun _ _ _ h => h) (Or.inl ⟨by rfl, fun w => by go_simp⟩) ?_
                    go_simp
                    refine wpAny_done (by kernel_rfl) ?_ _
                    have HK8 : Hid (Kept [] wb w8) := (HK6.out.drew).trans k8 (by simp)
                    clear k8 HK6
                    go_wp2_with fail
                    exact ⟨⟨n + 1, by go_num, by omega, HK8.out⟩, by simp [intOf]; omega⟩
            · have hkl2 : ¬ (k : Int) < (us.length : Int) := by omega
              have hAr : Ar ((SC ep us).ws.take n) 5 50 ep (us.take k) := cut_ar 5 50 ep (by omega) he us hunit hroom n k hk hkt (fun h => by omega) (by rw [hN.out]; omega)
              have hop := sy_cut hSx n (us.take k) (by show n ≤ (wall 5 ep 0 us).length; rw [wall_length, hN.out]; omega) (by show (wall 5 ep 0 us).length ≤ 100000; rw [wall_length, hN.out]; omega) hAr
              rw [show ((5 : Nat) : Int) = 5 from rfl, show ((50 : Nat) : Int) = 50 from rfl] at hop
              clear hSx hAr hIx
              go_wp2_with fail
              refine hop.mono ?_
              rintro e w5 ⟨q2, rfl, hop2⟩
              clear hop
              go_wp2_with fail
              refine hop2.mono ?_
              rintro e w6 ⟨p2, rfl, hS6, k6⟩
              have KK6 := KX1.trans k6 (by simp)
              have hT6 := hsT w6 (HT.out.kept KK6 (by simp))
              have hS6d := hS6.kept (Kept.refl [] w6).drew
              have huns := units_same hS6d _ (hT6.kept (Kept.refl [] w6).drew (by simp)) k htl
              have HK6 := Hid.mk KK6
              clear hop2 hS6 hS6d hT6 k6
              go_wp2_with fail
              refine wp_region_any (by kernel_rfl) ?_
              change wpAny _ _ _ _ _ _ _ (World.drew _)
              refine wpAny_take (i := 0) (v := .int .i64 0) rfl (by kernel_rfl) (by kernel_rfl) (by kernel_rfl) (fun _ _ _ h => h) (Or.inl ⟨by rfl, fun w => by go_simp⟩) ?_
              go_simp
              refine wpAny_take (i := 1) (v := .bool false) rfl (by kernel_rfl) (by kernel_rfl) (by kernel_rfl) (fun _ _ _ h => h) (Or.inl ⟨by rfl, fun w => by go_simp⟩) ?_
              go_simp
              refine wpAny_take (i := 2) (v := .bool false) rfl (by kernel_rfl) (by kernel_rfl) (by kernel_rfl) (fun _ _ _ h => h) (Or.inl ⟨by rfl, fun w => by go_simp⟩) ?_
              go_simp
              refine wpAny_take (i := 3) (v := .pointer (some ⟨p2, 0, none⟩)) rfl (by kernel_rfl) (by kernel_rfl) (by kernel_rfl) (fun _ _ _ h => h) (Or.inl ⟨by rfl, fun w => by go_simp⟩) ?_
              go_simp
              refine wpAny_take (i := 5) (v := .slice av us.length cv) rfl (by kernel_rfl) (by kernel_rfl) (by kernel_rfl) (fun _ _ _ h => h) (Or.inl ⟨by rfl, fun w => by go_simp⟩) ?_
              go_simp
              refine wpAny_take (i := 6) (v := .int .i64 (k : Int)) rfl (by kernel_rfl) (by kernel_rfl) (by kernel_rfl) (fun _ _ _ h => h) (Or.inl ⟨by rfl, fun w => by go_simp⟩) ?_
              go_simp
              refine wpAny_take (i := 7) (v := .slice asl k csl) rfl (by kernel_rfl) (by kernel_rfl) (by kernel_rfl) (fun _ _ _ h => h) (Or.inl ⟨by rfl, fun w => by go_simp⟩) ?_
              go_simp
              refine wpAny_ready (rs := [4]) (by kernel_rfl) (by simp) (AllReady.cons rfl (fun K hK => ?_) AllReady.nil)
              go_simp
              refine huns.mono ?_
              rintro e w7 ⟨g7, rfl, hsm⟩
              refine hK _ _ ?_
              clear hK K huns
              go_simp
              refine wpAny_ready (rs := [8]) (by kernel_rfl) (by simp) (AllReady.cons rfl (fun K hK => ?_) AllReady.nil)
              go_simp
              refine hsm.mono ?_
              rintro e w8 ⟨rfl, k8⟩
              refine hK _ _ ?_
              clear hK K hsm
              go_simp
              refine wpAny_take (i := 9) (v := .bool false) rfl (by kernel_rfl) (by kernel_rfl) (by kernel_rfl) (fun _ _ _ h => h) (Or.inl ⟨by rfl, fun w => by go_simp⟩) ?_
              go_simp
              refine wpAny_take (i := 10) (v := .bool false) rfl (by kernel_rfl) (by kernel_rfl) (by kernel_rfl) (fun _ _ _ h => h) (Or.inl ⟨by rfl, fun w => by go_simp⟩) ?_
              go_simp
              refine wpAny_take (i := 11) (v := undef) rfl (by kernel_rfl) (by kernel_rfl) (by kernel_rfl) (fun _ _ _ h => h) (Or.inr ⟨by rfl, rfl⟩) ?_
              go_simp
              refine wpAny_take (i := 12) (v := undef) rfl (by kernel_rfl) (by kernel_rfl) (by kernel_rfl) (fun _ _ _ h => h) (Or.inr ⟨by rfl, rfl⟩) ?_
              go_simp
              refine wpAny_take (i := 13) (v := undef) rfl (by kernel_rfl) (by kernel_rfl) (by kernel_rfl) (fun _ _ _ h => h) (Or.inr ⟨by rfl, rfl⟩) ?_
              go_simp
              refine wpAny_take (i := 14) (v := undef) rfl (by kernel_rfl) (by kernel_rfl) (by kernel_rfl) (fun _ _ _ h => h) (Or.inr ⟨by rfl, rfl⟩) ?_
              go_simp
              refine wpAny_take (i := 15) (v := undef) rfl (by kernel_rfl) (by kernel_rfl) (by kernel_rfl) (fun _ _ _ h => h) (Or.inr ⟨by rfl, rfl⟩) ?_
              go_simp
              refine wpAny_take (i := 16) (v := undef) rfl (by kernel_rfl) (by kernel_rfl) (by kernel_rfl) (fun _ _ _ h => h) (Or.inr ⟨by rfl, rfl⟩) ?_
              go_simp
              refine wpAny_take (i := 17) (v := undef) rfl (by kernel_rfl) (by kernel_rfl) (by kernel_rfl) (fun _ _ _ h => h) (Or.inr ⟨by rfl, rfl⟩) ?_
              go_simp
              refine wpAny_take (i := 18) (v := undef) rfl (by kernel_rfl) (by kernel_rfl) (by kernel_rfl) (fun _ _ _ h => h) (Or.inr ⟨by rfl, rfl⟩) ?_
              go_simp
              refine wpAny_take (i := 19) (v := undef) rfl (by kernel_rfl) (by kernel_rfl) (by kernel_rfl) (fun _ _ _ h => h) (Or.inr ⟨by rfl, rfl⟩) ?_
              go_simp
              refine wpAny_take (i := 20) (v := undef) rfl (by kernel_rfl) (by kernel_rfl) (by kernel_rfl) (fun _ _ _ h => h) (Or.inr ⟨by rfl, rfl⟩) ?_
              go_simp
              refine wpAny_take (i := 21) (v := undef) rfl (by kernel_rfl) (by kernel_rfl) (by kernel_rfl) (fun _ _ _ h => h) (Or.inr ⟨by rfl, rfl⟩) ?_
              go_simp
              refine wpAny_take (i := 22) (v := .bool false) rfl (by kernel_rfl) (by kernel_rfl) (by kernel_rfl) (fun _ _ _ h => h) (Or.inl ⟨by rfl, fun w => by go_simp⟩) ?_
              go_simp
              refine wpAny_take (i := 23) (v := .bool false) rfl (by kernel_rfl) (by kernel_rfl) (by kernel_rfl) (fun _ _ _ h => h) (Or.inl ⟨by rfl, fun w => by go_simp⟩) ?_
              go_simp
              refine wpAny_done (by kernel_rfl) ?_ _
              have HK8 : Hid (Kept [] wb w8) := (HK6.out.drew).trans k8 (by simp)
              clear k8 HK6
              go_wp2_with fail
              exact ⟨⟨n + 1, by go_num, by omega, HK8.out⟩, by simp [intOf]; omega⟩
        · have hltn2 : ¬ (n : Int) < (N : Int) + 1 := by omega
          have hfin := Hid.mk (HCu.out.sy.k.trans KX1 (by simp))
          clear KX1 HCu
          go_wp2
          go_ret
          exact ⟨rfl, hfin.out⟩

theorem cuts_any (v : Value) (ls : List OpL) (ep : Nat) (w : World) (hv : HoldsO w v ls) (he : ep < 18446744073709551616) : Calls Try.prog 4 #[v, .int .u64 (ep : Int)] w fun e w' => e = .returned (.bool true) ∧ Kept [] w w' := by
  by_cases h : ls.length ≤ 20
  · exact cuts_walk v ls ep w hv h he
  · obtain ⟨a1, c1, rfl, _⟩ := hv
    exact cuts_long a1 ls.length c1 ep w (by omega)
end Go.Proofs.Ytdcjaopmfccgbaa
