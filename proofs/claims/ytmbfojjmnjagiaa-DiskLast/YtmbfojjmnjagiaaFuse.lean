/-
  DiskFuses: the walk.
-/
import Derived.Test.YtmbfojjmnjagiaaBlock
namespace Go.Proofs.Ytmbfojjmnjagiaa
open Go.RowKit
set_option linter.unusedVariables false

set_option maxRecDepth 100000 in
set_option maxHeartbeats 1000000 in
theorem fuses_long (n : Nat) (a : Option Addr) (m cap : Nat) (w : World) (h : 300 < m) : Calls Try.prog 5 #[.int .u8 (n : Int), .slice a m cap] w fun e w' => e = .returned (.bool true) ∧ Kept [] w w' := by
  have hn : (300 : Int) < (m : Int) := by omega
  go_enter Try.func5, Try.ntmps5
  go_wp2_with fail
  refine (awake_any w).mono ?_
  rintro e w1 ⟨rfl, k1⟩
  go_wp2_with fail
  refine (awake_any w1).mono ?_
  rintro e w2 ⟨rfl, k2⟩
  have hK := k1.trans k2 (by simp)
  clear k1 k2
  go_wp2
  go_ret
  exact ⟨rfl, hK⟩

/-- The disk behind j writes with a fuse of n. -/
def burnt (n j : Nat) (ws : List Wr) : St := ⟨256, ws, ((n - j : Nat) : Int), decide (n < j)⟩

/-- Behind j rounds: min j n writes are done, the fuse has what is left, and it is down if there was one write too many. -/
def Burns (n j : Nat) (s : St) : Prop := s.nb = 256 ∧ s.ws.length = min j n ∧ s.fuse = ((n - j : Nat) : Int) ∧ s.down = decide (n < j)

theorem Burns.next {n j : Nat} {s : St} (h : Burns n j s) (i : Nat) (hi : i < 256) (l : List UInt8) (hl : l.length = 256) : Burns n (j + 1) (wrS s (i : Int) l) ∧ wrE s (i : Int) l.length = if n ≤ j then 9 else 0 := by
  obtain ⟨h1, h2, h3, h4⟩ := h
  unfold wrS wrE Burns
  have hin : ¬ ((i : Int) < 0 ∨ (s.nb : Int) ≤ (i : Int) ∨ l.length ≠ 256) := by rw [h1]; omega
  by_cases hd : n < j
  · have e : s.down = true := by rw [h4]; simpa using hd
    rw [if_pos e, if_pos e, if_pos (show n ≤ j by omega)]
    refine ⟨⟨h1, by omega, by rw [h3]; omega, ?_⟩, rfl⟩
    rw [h4]
    simp
    omega
  · have e : ¬ s.down = true := by rw [h4]; simpa using hd
    rw [if_neg e, if_neg e, if_neg hin, if_neg hin]
    by_cases hf : n = j
    · have e2 : s.fuse = 0 := by rw [h3]; omega
      rw [if_pos e2, if_pos e2, if_pos (show n ≤ j by omega)]
      refine ⟨⟨h1, by show s.ws.length = _; omega, by show s.fuse = _; rw [h3]; omega, ?_⟩, rfl⟩
      show true = _
      simp
      omega
    · have e2 : ¬ s.fuse = 0 := by rw [h3]; omega
      rw [if_neg e2, if_neg e2, if_neg (show ¬ n ≤ j by omega)]
      refine ⟨⟨h1, by show (s.ws ++ [(_, l)]).length = _; rw [List.length_append]; simp; omega, ?_, ?_⟩, rfl⟩
      · show (if 0 < s.fuse then s.fuse - 1 else s.fuse) = _
        rw [h3, if_pos (by omega)]
        omega
      · show s.down = _
        rw [h4]
        simp
        omega

/-- A block, and its Write. -/
theorem block_write {w : World} {F : List Nat} {p : Nat} {s : St} (i : Int) (b : UInt8) (hD : IsD w F p s) (hb : s.ws.length ≤ 1000) :
    Calls Try.prog 18 #[.agg #[.int .i64 0, .int .i64 0, .int .u8 (b.toNat : Int), .bool false]] w fun e wa => ∃ v, e = .returned v ∧ Kept [] w wa ∧
    Calls Try.prog 17 #[.pointer (some ⟨p, 0, none⟩), .int .i64 i, v] wa fun e wb => e = .returned (.int .i64 (wrE s i (blockL b).length)) ∧ ∃ F', IsD wb F' p (wrS s i (blockL b)) ∧ Kept F w wb ∧ NewF w F F' := by
  refine (block_any 0 0 b false w).mono fun e wa ⟨v, he, hra, ka, fa⟩ => ⟨v, he, ka, ?_⟩
  rw [blockV_no] at hra
  refine (write_any (hD.kept ka (by simp)) i v _ hra (fun g hg hm => by have := fa g hg; have := hD.lt g hm; omega) hb).mono fun e wb ⟨he, F', h1b, kb, nb⟩ => ⟨he, F', h1b, (ka.mono (by simp)).trans kb (fun x hx => .inl hx), fun x hx => ?_⟩
  rcases nb x hx with h | h
  · exact .inl h
  · have := ka.size; exact .inr (by omega)

set_option maxRecDepth 100000 in
set_option maxHeartbeats 2000000 in
theorem fuses_walk (n : Nat) (hn : n < 256) (v : Value) (l : List UInt8) (w : World) (hv : Reads w v l) (hl : l.length ≤ 300) : Calls Try.prog 5 #[.int .u8 (n : Int), v] w fun e w' => e = .returned (.bool true) ∧ Kept [] w w' := by
  obtain ⟨a, cap, rfl, h2, h3, h4, h5⟩ := id hv
  have hcap : cap ≤ 9223372036854775807 := h3
  clear h5 h4 h3
  have hl1 : ¬ (300 : Int) < (l.length : Int) := by omega
  go_enter Try.func5, Try.ntmps5
  go_wp2_with fail
  refine (awake_any w).mono ?_
  rintro e w1 ⟨rfl, k1⟩
  go_wp2_with fail
  refine (new_any 256 w1).mono ?_
  rintro e w2 ⟨p, rfl, F, hD2, k2, n2⟩
  go_wp2_with fail
  refine (setfuse_any hD2 (n : Int) (by omega) (by omega)).mono ?_
  rintro e w3 ⟨rfl, hD3, k3⟩
  have K3 : Kept [] w w3 := (k1.trans k2 (by simp)).trans k3 (fun x hx => .inr (by have := n2 x hx; have := k1.size; omega))
  have N3 : ∀ x ∈ F, w.heap.size ≤ x := fun x hx => by have := n2 x hx; have := k1.size; omega
  have B3 : Burns n 0 (fuseS (newS 256) (n : Int)) := ⟨rfl, by show 0 = _; omega, by show max (n : Int) (-1) = _; omega, by show false = _; simp⟩
  generalize fuseS (newS 256) (n : Int) = s3 at hD3 B3
  clear hD2 k1 k2 k3 n2
  go_wp2_with fail
  go_loopw [6, 27] (fun _ i wr => ∃ j : Nat, i = .int .i64 (j : Int) ∧ ∃ s F, j ≤ l.length ∧ IsD wr F p s ∧ Burns n j s ∧ Kept [] w wr ∧ (∀ x ∈ F, w.heap.size ≤ x)) (fun _ i _ => l.length - (intOf i).toNat)
  case atStart => exact ⟨0, rfl, s3, F, by omega, hD3, B3, K3, N3⟩
  case round =>
    clear hD3 B3 K3 N3
    obtain ⟨j, rfl, s, F, hj, hD, hB, hK, hN⟩ := hrel
    by_cases hlt : j < l.length
    · have hlt2 : (j : Int) < (l.length : Int) := by omega
      go_wp2_with fail
      refine (read_any hD (j : Int)).mono ?_
      rintro e wa ⟨va, rfl, _, ka⟩
      have hDa := hD.kept ka (by simp)
      have hKa := hK.trans ka (by simp)
      obtain ⟨x, hx⟩ : ∃ x, l[j]? = some x := ⟨l[j], by simp⟩
      obtain ⟨a', cap', hveq, -, -, -, h5⟩ := hv.kept hKa (by simp)
      injection hveq with e1 e2 e3
      subst e1 e3
      obtain ⟨b, o, rfl, hcc⟩ := h5 (fun h => by subst h; simp at hx)
      have hc0 : wa.cell? ⟨b, o + j, none⟩ = some (.int .u8 (x.toNat : Int)) := hcc j x hx
      have hB2 := hB.next x.toNat (UInt8.toNat_lt x) (blockL (UInt8.ofNat j)) (blockL_length _)
      have hbb : s.ws.length ≤ 1000 := by rw [hB.2.1]; omega
      have S0 : wa.drew.cell? ⟨b, o + j, none⟩ = some (.int .u8 (x.toNat : Int)) := hc0
      have hnF : b ∉ F := fun hm => by
        obtain ⟨k, hk, h1⟩ := hv.lt (fun h => by subst h; simp at hx)
        simp [Value.ownBlock] at hk
        subst hk
        have := hN b hm
        omega
      have hW : Calls Try.prog 18 #[.agg #[.int .i64 0, .int .i64 0, .int .u8 (((UInt8.ofNat j).toNat : Nat) : Int), .bool false]] wa.drew fun e wb => ∃ v, e = .returned v ∧ wb.cell? ⟨b, o + j, none⟩ = some (.int .u8 (x.toNat : Int)) ∧
          Calls Try.prog 17 #[.pointer (some ⟨p, 0, none⟩), .int .i64 (x.toNat : Int), v] wb fun e wc => e = .returned (.int .i64 (wrE s (x.toNat : Int) (blockL (UInt8.ofNat j)).length)) ∧ wc.cell? ⟨b, o + j, none⟩ = some (.int .u8 (x.toNat : Int)) ∧ ∃ F', IsD wc F' p (wrS s (x.toNat : Int) (blockL (UInt8.ofNat j))) ∧ Kept F wa.drew wc ∧ NewF wa.drew F F' := by
        refine (block_write (x.toNat : Int) (UInt8.ofNat j) (hDa.kept ((Kept.refl [] wa).drew) (by simp)) hbb).mono fun e wb ⟨v, he, kb, hh⟩ => ⟨v, he, ?_, hh.mono fun e wc ⟨he, F', d1, d2, d3⟩ => ⟨he, ?_, F', d1, d2, d3⟩⟩
        · rw [kb.cell (World.block_lt_of_cell? _ _ S0) (by simp)]; exact S0
        · rw [d2.cell (World.block_lt_of_cell? _ _ S0) hnF]; exact S0
      have hwrap : IntKind.u8.wrap (j : Int) = (((UInt8.ofNat j).toNat : Nat) : Int) := by rw [IntKind.wrap_u8]; simp
      have hxw : IntKind.i64.wrap (x.toNat : Int) = (x.toNat : Int) := by rw [IntKind.wrap_i64]; have := UInt8.toNat_lt x; omega
      clear hD hK ka hB hbb hcc h5 hx hDa hnF
      by_cases hnj : n ≤ j
      · skip
        have hE : wrE s (x.toNat : Int) (blockL (UInt8.ofNat j)).length = 9 := by rw [hB2.2, if_pos hnj]
        have hBd : (wrS s (x.toNat : Int) (blockL (UInt8.ofNat j))).down = true := by rw [hB2.1.2.2.2]; simp; omega
        have hBw : (wrS s (x.toNat : Int) (blockL (UInt8.ofNat j))).ws.length = n := by rw [hB2.1.2.1]; omega
        have t1 : (n : Int) ≤ (j : Int) := by omega
        have t2 : ¬ ((j : Int) + 1 < (n : Int)) := by omega
        have t3 : ¬ ((j : Int) + 1 ≤ (n : Int)) := by omega
        rw [hE] at hW
        generalize wrS s (x.toNat : Int) (blockL (UInt8.ofNat j)) = s' at hW hB2 hBd hBw
        clear hE
        go_wp2_with fail
        go_region_held3 (fun w' => w'.cell? ⟨b, o + j, none⟩ = some (.int .u8 (x.toNat : Int))) (first | exact S0 | exact S1 | exact S2) (first | (go_at_call 17; refine hW2.mono ?_; rintro e wc ⟨rfl, S2, hE⟩) | (go_at_call 18; refine hW.mono ?_; rintro e wb ⟨vb, rfl, S1, hW2⟩))
        obtain ⟨F', hDc, kc, nc⟩ := hE
        have hKc : Kept [] w wc := hKa.drew.trans kc (fun y hy => .inr (hN y hy))
        have hNc : ∀ y ∈ F', w.heap.size ≤ y := fun y hy => by
          rcases nc y hy with h | h
          · exact hN y h
          · have h' : wa.heap.size ≤ y := h
            have := hKa.size; omega
        have hd1 := down_any hDc
        have hw1 := writes_any hDc
        rw [hBd] at hd1
        rw [hBw] at hw1
        have hB3 : Hid (Burns n (j + 1) s') := hB2.1
        clear hW S0 S1 S2 kc nc hKa hN hW2 hB2 hBd hBw hwrap hc0
        go_wp2_with (first | (go_at_call 19; refine hd1.mono ?_; rintro e w' ⟨rfl, rfl⟩) | (go_at_call 20; refine hw1.mono ?_; rintro e w' ⟨rfl, rfl⟩))
        go_roundw
        case rel => exact ⟨j + 1, by go_num, s', F', by omega, hDc, hB3.out, hKc, hNc⟩
        case measure => simp [intOf]; omega
      · skip
        have hE : wrE s (x.toNat : Int) (blockL (UInt8.ofNat j)).length = 0 := by rw [hB2.2, if_neg hnj]
        have hBd : (wrS s (x.toNat : Int) (blockL (UInt8.ofNat j))).down = false := by rw [hB2.1.2.2.2]; simp; omega
        have hBw : (wrS s (x.toNat : Int) (blockL (UInt8.ofNat j))).ws.length = j + 1 := by rw [hB2.1.2.1]; omega
        have t1 : ¬ ((n : Int) ≤ (j : Int)) := by omega
        have t2 : (j : Int) + 1 ≤ (n : Int) := by omega
        have t3 : ¬ (n : Int) < (j : Int) + 1 := by omega
        rw [hE] at hW
        generalize wrS s (x.toNat : Int) (blockL (UInt8.ofNat j)) = s' at hW hB2 hBd hBw
        clear hE
        go_wp2_with fail
        go_region_held3 (fun w' => w'.cell? ⟨b, o + j, none⟩ = some (.int .u8 (x.toNat : Int))) (first | exact S0 | exact S1 | exact S2) (first | (go_at_call 17; refine hW2.mono ?_; rintro e wc ⟨rfl, S2, hE⟩) | (go_at_call 18; refine hW.mono ?_; rintro e wb ⟨vb, rfl, S1, hW2⟩))
        obtain ⟨F', hDc, kc, nc⟩ := hE
        have hKc : Kept [] w wc := hKa.drew.trans kc (fun y hy => .inr (hN y hy))
        have hNc : ∀ y ∈ F', w.heap.size ≤ y := fun y hy => by
          rcases nc y hy with h | h
          · exact hN y h
          · have h' : wa.heap.size ≤ y := h
            have := hKa.size; omega
        have hd1 := down_any hDc
        have hw1 := writes_any hDc
        rw [hBd] at hd1
        rw [hBw] at hw1
        have hB3 : Hid (Burns n (j + 1) s') := hB2.1
        clear hW S0 S1 S2 kc nc hKa hN hW2 hB2 hBd hBw hwrap hc0
        go_wp2_with (first | (go_at_call 19; refine hd1.mono ?_; rintro e w' ⟨rfl, rfl⟩) | (go_at_call 20; refine hw1.mono ?_; rintro e w' ⟨rfl, rfl⟩))
        go_roundw
        case rel => exact ⟨j + 1, by go_num, s', F', by omega, hDc, hB3.out, hKc, hNc⟩
        case measure => simp [intOf]; omega
    · have hlt2 : ¬ (j : Int) < (l.length : Int) := by omega
      have hnb : s.nb = 256 := hB.1
      have hbb : s.ws.length ≤ 1000 := by rw [hB.2.1]; omega
      have hd1 := down_any hD
      have hrE : rdE s 0 = if s.down = true then 9 else 0 := by
        unfold rdE
        split
        · rfl
        · rw [if_neg (by rw [hnb]; omega)]
      have hwE : wrE (restS s) 0 (blockL 0).length = 0 := by
        unfold wrE restS
        dsimp only
        rw [if_neg (by simp), hnb, blockL_length, if_neg (by omega), if_neg (by omega)]
      have hrd := read_any hD 0
      rw [hrE] at hrd
      have hE9 : ((if s.down = true then (9 : Int) else 0) == 9) = s.down := by cases s.down <;> rfl
      generalize (if s.down = true then (9 : Int) else 0) = E at hrd hE9
      generalize hdd : s.down = d at hd1 hE9
      clear hdd hrE
      go_wp2_with (go_at_call 19; refine hd1.mono ?_; rintro e w' ⟨rfl, rfl⟩)
      refine hrd.mono ?_
      rintro e wa ⟨va, rfl, _, ka⟩
      have hDa := hD.kept ka (by simp)
      have hKa := hK.trans ka (by simp)
      clear hrd hd1 ka hD hK
      go_wp2_with fail
      refine (restart_any hDa).mono ?_
      rintro e wb ⟨rfl, hDb, kb⟩
      have hKb : Kept [] w wb := hKa.trans kb (fun x hx => .inr (hN x hx))
      have hd2 : Calls Try.prog 19 #[.pointer (some ⟨p, 0, none⟩)] wb fun e w' => e = .returned (.bool false) ∧ wb = w' := down_any hDb
      have hbw := block_write 0 0 hDb hbb
      rw [hwE] at hbw
      clear hDa hKa kb hDb hwE hB
      go_wp2_with (go_at_call 19; refine hd2.mono ?_; rintro e w' ⟨rfl, rfl⟩)
      refine hbw.mono ?_
      rintro e wc ⟨vc, rfl, _, hW⟩
      clear hbw hd2
      go_wp2_with fail
      refine hW.mono ?_
      rintro e wd ⟨rfl, F', _, kd, _⟩
      have hKd : Kept [] w wd := hKb.trans kd (fun x hx => .inr (hN x hx))
      clear hW kd hKb hN
      go_wp2
      go_ret
      exact ⟨rfl, hKd⟩

theorem fuses_any (n : Nat) (hn : n < 256) (v : Value) (l : List UInt8) (w : World) (hv : Reads w v l) : Calls Try.prog 5 #[.int .u8 (n : Int), v] w fun e w' => e = .returned (.bool true) ∧ Kept [] w w' := by
  by_cases h : l.length ≤ 300
  · exact fuses_walk n hn v l w hv h
  · obtain ⟨a, cap, rfl, _⟩ := hv
    exact fuses_long n a l.length cap w (by omega)

end Go.Proofs.Ytmbfojjmnjagiaa
