/-
  read: one client more of bytes.
-/
import Derived.Test.YtngjljgcldfekaaEe
import Derived.Test.YtngjljgcldfekaaRefR2
namespace Go.Proofs.Ytngjljgcldfekaa
open Go.RowKit
set_option linter.unusedVariables false
/-- A window at p and a Reader at q, side by side. -/
structure St (w0 w : World) (p q : Nat) (L : List Cl) (l : List UInt8) (bad : Bool) : Prop where
  win : Win w0 w p L
  rd : ∃ v, IsR 83 w q v l bad ∧ v.ownBlock ≠ some p
  ne : p ≠ q
  new : w0.heap.size ≤ q
section
variable {w0 w : World} {p q : Nat} {L : List Cl} {l : List UInt8} {bad : Bool}
theorem St.nil (h : St w0 w p q L l true) : l = [] := by
  obtain ⟨v, h1, -⟩ := h.rd
  exact h1.none rfl
theorem st_num (h : St w0 w p q L l bad) : Calls Try.prog 38 #[.pointer (some ⟨q, 0, none⟩)] w fun e w' => e = .returned (.int .u64 ((rnum l bad).1 : Int)) ∧ St w0 w' p q L (rnum l bad).2.1 (rnum l bad).2.2 := by
  obtain ⟨v, h1, h2⟩ := h.rd
  refine (rnum_any q v l bad w h1).mono ?_
  rintro e w' ⟨rfl, v', i1, i2, i3⟩
  refine ⟨rfl, ⟨h.win.is.kept i2 (by simp; exact h.ne), h.win.good, h.win.kept.trans i2 (fun x hx => by simp at hx; subst hx; exact .inr h.new), h.win.new⟩, ⟨v', i1, fun e => h2 (i3 p e)⟩, h.ne, h.new⟩
theorem st_add (h : St w0 w p q L l bad) {c s : Nat} (hc : U64 c) (hs : U64 s) : Calls Try.prog 11 #[.pointer (some ⟨p, 0, none⟩), Uv c, Uv s] w fun e w' => e = .returned (.bool (!seenL L c s)) ∧ St w0 w' p q (nxt L c s) l bad := by
  refine (win_add h.win hc hs).mono ?_
  rintro e w' ⟨rfl, h1, k1⟩
  obtain ⟨v, i1, i2⟩ := h.rd
  exact ⟨rfl, h1, ⟨v, i1.kept k1 (by simp; exact fun e => h.ne e.symm) (fun g hg hm => by simp at hm; subst hm; exact i2 hg), i2⟩, h.ne, h.new⟩
/-- What read answers and leaves: o is what the bytes go on with. -/
def ReadAt (w0 : World) (p q : Nat) (o : Option (List Cl × List UInt8)) (e : Ending) (w' : World) : Prop :=
  (∃ L l, o = some (L, l) ∧ e = .returned (.bool true) ∧ St w0 w' p q L l false) ∨
  (o = none ∧ ∃ b L l bad, e = .returned (.bool b) ∧ St w0 w' p q L l bad ∧ (b = true → bad = true))
theorem read_no {w' : World} {L' : List Cl} {l' : List UInt8} {bad' : Bool} (h : St w0 w' p q L' l' bad') : ReadAt w0 p q none (.returned (.bool false)) w' := .inr ⟨rfl, false, L', l', bad', rfl, h, (fun h => by cases h)⟩
theorem read_bad {w' : World} {L' : List Cl} {l' : List UInt8} (h : St w0 w' p q L' l' true) : ReadAt w0 p q none (.returned (.bool true)) w' := .inr ⟨rfl, true, L', l', true, rfl, h, (fun _ => rfl)⟩
theorem read_yes {w' : World} {L' : List Cl} {l' : List UInt8} (h : St w0 w' p q L' l' false) : ReadAt w0 p q (some (L', l')) (.returned (.bool true)) w' := .inl ⟨L', l', rfl, rfl, h⟩
set_option maxRecDepth 100000 in
set_option maxHeartbeats 1000000 in
/-- The head of a client: how many serials is no number of them. -/
theorem read39_head (h : St w0 w p q L l bad) {c k : Nat} {l1 l2 : List UInt8} {b1 b2 : Bool} (h1 : rnum l bad = (c, l1, b1)) (h2 : rnum l1 b1 = (k, l2, b2)) (hk : k = 0 ∨ 4 < k) (hk64 : U64 k) : Calls Try.prog 39 #[.pointer (some ⟨p, 0, none⟩), .pointer (some ⟨q, 0, none⟩)] w fun e w' => ReadAt w0 p q none e w' := by
  have hA := st_num h
  rw [h1] at hA
  have HA := Hid.mk hA
  have H2 := Hid.mk h2
  have HN : Hid (∀ W L' l' bad', St w0 W p q L' l' bad' → ReadAt w0 p q none (.returned (.bool false)) W) := fun W L' l' bad' => read_no
  generalize ReadAt w0 p q none = R at HN
  clear h hA h1 h2
  go_enter Try.func39, Try.ntmps39
  go_wp2_with fail
  refine HA.out.mono ?_
  rintro e w1 ⟨rfl, h1⟩
  have hB := st_num h1
  rw [H2.out] at hB
  have HB := Hid.mk hB
  clear hB h1
  try dsimp only
  go_wp2_with fail
  refine HB.out.mono ?_
  rintro e w2 ⟨rfl, h2⟩
  try dsimp only at h2
  try dsimp only
  have HS := Hid.mk (HN.out _ _ _ _ h2)
  clear h2
  rcases hk with hk | hk
  · have g0 : ((k : Int) == 0) = true := by simp [hk]
    clear hk
    go_wp2_with fail
    exact HS.out
  · have g0 : ((k : Int) == 0) = false := by simp; omega
    have g4 : (4 : Int) < (k : Int) := by omega
    go_wp2_with fail
    exact HS.out
set_option maxRecDepth 100000 in
set_option maxHeartbeats 1000000 in
theorem read39_there (h : St w0 w p q L l bad) {c k : Nat} {l1 l2 : List UInt8} {b1 b2 : Bool} (h1 : rnum l bad = (c, l1, b1)) (h2 : rnum l1 b1 = (k, l2, b2)) (hk1 : 1 ≤ k) (hk4 : k ≤ 4) (hz : ∃ z ∈ L, z.c = c) : Calls Try.prog 39 #[.pointer (some ⟨p, 0, none⟩), .pointer (some ⟨q, 0, none⟩)] w fun e w' => ReadAt w0 p q none e w' := by
  have hA := st_num h
  rw [h1] at hA
  have HA := Hid.mk hA
  have H2 := Hid.mk h2
  have HN : Hid (∀ W L' l' bad', St w0 W p q L' l' bad' → ReadAt w0 p q none (.returned (.bool false)) W) := fun W L' l' bad' => read_no
  have HF : Hid (∃ j x, L[j]? = some x ∧ x.c = c ∧ (∀ y ∈ L.take j, y.c ≠ c)) := by
    rcases where_is L c with ⟨j, x, i1, i2, i3, -⟩ | ⟨i1, -⟩
    · exact ⟨j, x, i1, i2, i3⟩
    · obtain ⟨z, i2, i3⟩ := hz; exact absurd i3 (i1 z i2)
  generalize ReadAt w0 p q none = R at HN
  clear h hA h1 h2 hz
  go_enter Try.func39, Try.ntmps39
  go_wp2_with fail
  refine HA.out.mono ?_
  rintro e w1 ⟨rfl, h1⟩
  have hB := st_num h1
  rw [H2.out] at hB
  have HB := Hid.mk hB
  clear hB h1
  try dsimp only
  go_wp2_with fail
  refine HB.out.mono ?_
  rintro e w2 ⟨rfl, h2⟩
  try dsimp only at h2
  try dsimp only
  have HS := Hid.mk (HN.out _ _ _ _ h2)
  have g0 : ((k : Int) == 0) = false := by simp; omega
  have g4 : ((4 : Int) < (k : Int)) = False := eq_false (by omega)
  obtain ⟨j, x, i1, i2, i3⟩ := HF.out
  have HI := Hid.mk (find27_some h2.win.is i1 i2 i3)
  have hj : (0 : Int) ≤ (j : Int) := by omega
  clear h2 i1 i2 i3
  go_wp2_with fail
  refine HI.out.mono ?_
  rintro e w3 ⟨rfl, rfl⟩
  go_wp2_with fail
  exact HS.out
set_option maxRecDepth 100000 in
set_option maxHeartbeats 1000000 in
theorem read39_loop (h : St w0 w p q L l false) {c k : Nat} {l1 l2 : List UInt8} (h1 : rnum l false = (c, l1, false)) (h2 : rnum l1 false = (k, l2, false)) (hc : U64 c) (hk1 : 1 ≤ k) (hk4 : k ≤ 4) (hz : ∀ z ∈ L, z.c ≠ c) : Calls Try.prog 39 #[.pointer (some ⟨p, 0, none⟩), .pointer (some ⟨q, 0, none⟩)] w fun e w' => ReadAt w0 p q (rser c k L l2) e w' := by
  have hA := st_num h
  rw [h1] at hA
  have HA := Hid.mk hA
  have H2 := Hid.mk h2
  have HC := Hid.mk hc
  have HZ := Hid.mk hz
  clear h hA h1 h2 hz hc
  have HN : Hid (∀ W L' l' bad', rser c k L l2 = none → St w0 W p q L' l' bad' → ReadAt w0 p q (rser c k L l2) (.returned (.bool false)) W) := fun W L' l' bad' e => by rw [e]; exact read_no
  have HM : Hid (∀ W L' l', rser c k L l2 = none → St w0 W p q L' l' true → ReadAt w0 p q (rser c k L l2) (.returned (.bool true)) W) := fun W L' l' e => by rw [e]; exact read_bad
  have HY : Hid (∀ W L' l', rser c k L l2 = some (L', l') → St w0 W p q L' l' false → ReadAt w0 p q (rser c k L l2) (.returned (.bool true)) W) := fun W L' l' e => by rw [e]; exact read_yes
  generalize ReadAt w0 p q (rser c k L l2) = R at HN HM HY
  go_enter Try.func39, Try.ntmps39
  go_wp2_with fail
  refine HA.out.mono ?_
  rintro e w1 ⟨rfl, h1⟩
  have hB := st_num h1
  rw [H2.out] at hB
  have HB := Hid.mk hB
  clear hB h1
  try dsimp only
  go_wp2_with fail
  refine HB.out.mono ?_
  rintro e w2 ⟨rfl, h2⟩
  try dsimp only at h2
  try dsimp only
  have H22 := Hid.mk h2
  have g0 : ((k : Int) == 0) = false := by simp; omega
  have g4 : ((4 : Int) < (k : Int)) = False := eq_false (by omega)
  have HI := Hid.mk (find27_none h2.win.is HZ.out)
  clear h2
  go_wp2_with fail
  refine HI.out.mono ?_
  rintro e w3 ⟨rfl, rfl⟩
  go_wp2_with fail
  go_loopw [24] (fun i wr => ∃ (j : Nat) (L' : List Cl) (l' : List UInt8) (b' : Bool), i = .int .u64 (j : Int) ∧ j ≤ k ∧ Hid (St w0 wr p q L' l' b' ∧ ((b' = false ∧ rser c (k - j) L' l' = rser c k L l2) ∨ (b' = true ∧ rser c k L l2 = none)))) (fun i _ => k - (intOf i).toNat)
  case atStart => exact ⟨0, L, l2, false, rfl, by omega, Hid.mk ⟨H22.out, .inl ⟨rfl, rfl⟩⟩⟩
  case round =>
    clear g0 g4
    obtain ⟨j, L', l', b', rfl, hj, hH⟩ := hrel
    by_cases hlt : j < k
    · have hjI : (j : Int) < (k : Int) := by omega
      have HX := Hid.mk (st_num hH.out.1)
      have HT : Hid (U64 (rnum l' b').1 ∧ ((rnum l' b').2.2 = true → rser c k L l2 = none) ∧ ((rnum l' b').2.2 = false → if seenL L' c (rnum l' b').1 = true then rser c k L l2 = none else rser c (k - (j + 1)) (addL L' c (rnum l' b').1) (rnum l' b').2.1 = rser c k L l2)) := by
        refine ⟨rnum_lt l' b', ?_, ?_⟩
        · intro hb
          rcases hH.out.2 with ⟨e1, e2⟩ | ⟨e1, e2⟩
          · subst e1
            cases hn : num l' with
            | none => rw [← e2, show k - j = (k - (j + 1)) + 1 by omega, rser, hn]; rfl
            | some x => obtain ⟨n, r⟩ := x; rw [num_some hn] at hb; cases hb
          · exact e2
        · intro hb
          rcases hH.out.2 with ⟨e1, e2⟩ | ⟨e1, e2⟩
          · subst e1
            cases hn : num l' with
            | none => rw [num_none hn] at hb; cases hb
            | some x =>
              obtain ⟨n, r⟩ := x
              rw [num_some hn]
              rw [show k - j = (k - (j + 1)) + 1 by omega, rser, hn] at e2
              dsimp only [Option.bind_some] at e2
              split
              · rename_i hs; dsimp only at hs; rw [if_pos hs] at e2; exact e2.symm
              · rename_i hs; dsimp only at hs; rw [if_neg hs] at e2; exact e2
          · subst e1
            have := hH.out.1.nil
            subst this
            cases hb
      clear hH
      generalize rnum l' b' = N at HX HT
      obtain ⟨n, r, b2⟩ := N
      go_wp2_with fail
      refine HX.out.mono ?_
      rintro e w4 ⟨rfl, h4⟩
      try dsimp only at h4
      try dsimp only
      have HAd := st_add h4 (s := n) HC.out HT.out.1
      clear h4
      cases hs : seenL L' c n with
      | true =>
        rw [hs] at HAd
        have HAd := Hid.mk HAd
        have hnone : rser c k L l2 = none := by
          cases b2 with
          | true => exact HT.out.2.1 rfl
          | false => have := HT.out.2.2 rfl; rwa [if_pos hs] at this
        have HNO := Hid.mk hnone
        clear hnone hs
        go_wp2_with fail
        refine HAd.out.mono ?_
        rintro e w5 ⟨rfl, h5⟩
        have HS := Hid.mk (HN.out _ _ _ _ HNO.out h5)
        clear h5
        go_wp2_with fail
        exact HS.out
      | false =>
        rw [hs] at HAd
        have HAd := Hid.mk HAd
        have hnx : nxt L' c n = addL L' c n := by unfold nxt; rw [if_neg (by simp [hs])]
        have HGO : Hid ((b2 = false ∧ rser c (k - (j + 1)) (addL L' c n) r = rser c k L l2) ∨ (b2 = true ∧ rser c k L l2 = none)) := by
          cases b2 with
          | true => exact .inr ⟨rfl, HT.out.2.1 rfl⟩
          | false => have := HT.out.2.2 rfl; rw [if_neg (by simp [hs])] at this; exact .inl ⟨rfl, this⟩
        have HNX := Hid.mk hnx
        clear hs hnx
        go_wp2_with fail
        refine HAd.out.mono ?_
        rintro e w5 ⟨rfl, h5⟩
        rw [HNX.out] at h5
        have HR : Hid (St w0 w5 p q (addL L' c n) r b2 ∧ ((b2 = false ∧ rser c (k - (j + 1)) (addL L' c n) r = rser c k L l2) ∨ (b2 = true ∧ rser c k L l2 = none))) := ⟨h5, HGO.out⟩
        clear h5
        go_wp2_with fail
        go_roundw
        case rel => exact ⟨j + 1, _, _, _, by go_num, by omega, HR⟩
        case measure => simp [intOf]; omega
    · obtain rfl : j = k := by omega
      have HE : Hid (R (.returned (.bool true)) wr) := by
        obtain ⟨i1, i2⟩ := hH.out
        rcases i2 with ⟨e1, e2⟩ | ⟨e1, e2⟩
        · subst e1; rw [Nat.sub_self] at e2; exact HY.out _ _ _ e2.symm i1
        · subst e1; exact HM.out _ _ _ e2 i1
      clear hH
      go_wp2_with fail
      exact HE.out
theorem read39_spoilt (h : St w0 w p q L l true) : Calls Try.prog 39 #[.pointer (some ⟨p, 0, none⟩), .pointer (some ⟨q, 0, none⟩)] w fun e w' => ReadAt w0 p q none e w' := by
  have := h.nil
  subst this
  exact read39_head h rnum_bad2 rnum_bad2 (.inl rfl) (by unfold U64; omega)
theorem read39 (h : St w0 w p q L l false) : Calls Try.prog 39 #[.pointer (some ⟨p, 0, none⟩), .pointer (some ⟨q, 0, none⟩)] w fun e w' => ReadAt w0 p q (rcl L l) e w' := by
  unfold rcl
  cases h1 : num l with
  | none => exact read39_head h (num_none h1) rnum_bad2 (.inl rfl) (by unfold U64; omega)
  | some a =>
    obtain ⟨c, l1⟩ := a
    dsimp only [Option.bind_some]
    cases h2 : num l1 with
    | none => exact read39_head h (num_some h1) (num_none h2) (.inl rfl) (by unfold U64; omega)
    | some b =>
      obtain ⟨k, l2⟩ := b
      dsimp only [Option.bind_some]
      by_cases hk : k = 0 ∨ 4 < k
      · rw [if_pos (by rcases hk with h | h; exact .inl h; exact .inr (.inl h))]
        exact read39_head h (num_some h1) (num_some h2) hk (num_lt h2)
      · by_cases hz : ∃ z ∈ L, z.c = c
        · rw [if_pos (.inr (.inr hz))]
          exact read39_there h (num_some h1) (num_some h2) (by omega) (by omega) hz
        · rw [if_neg (by rintro (h | h | h); omega; omega; exact hz h)]
          exact read39_loop h (num_some h1) (num_some h2) (num_lt h1) (by omega) (by omega) (fun z hm e => hz ⟨z, hm, e⟩)
end
end Go.Proofs.Ytngjljgcldfekaa
