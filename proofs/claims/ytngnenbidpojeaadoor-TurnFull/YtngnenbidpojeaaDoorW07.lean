import Derived.Test.YtngnenbidpojeaaDoorW03
import Derived.Test.YtngnenbidpojeaaDoorW04
import Derived.Test.YtngnenbidpojeaaDoorW06
/-
  read: the letter that a Reader's bytes begin with.
-/
namespace Go.Proofs.YtngnenbidpojeaaDoor
set_option maxRecDepth 100000
open Go.RowKit
set_option linter.unusedVariables false
section
variable {w : World}
set_option maxRecDepth 100000 in
set_option maxHeartbeats 1000000 in
theorem read34 (p : Nat) (v : Value) (l : List UInt8) (bad : Bool) (hR : IsR 162 w p v l bad) (hv : ∀ g, v.ownBlock = some g → g < w.heap.size) : Calls Tryd.prog 97 #[.pointer (some ⟨p, 0, none⟩)] w fun e w' => LetAt 162 w p v l bad e w' := by
  go_enter Tryd.func97, Tryd.ntmps97
  go_wp2_with fail
  obtain ⟨W0, e0, k0, hz0, hb0, hb1⟩ := box2 w (.cells #[.string ⟨#[]⟩, .int .u64 0, .int .i64 0, .slice none 0 0] 25) (.cells #[.string ⟨#[]⟩, .int .u64 0, .int .i64 0, .slice none 0 0] 25)
  rw [e0]
  clear e0
  have s0 : LS 162 w p v w.heap.size (w.heap.size + 1) W0 l bad ⟨[], 0, 0, []⟩ none 0 := ⟨⟨v, hR.kept k0 (by simp) (by simp), Within.refl v⟩, hb1, hb0, OwnsJ.nil W0, fun g hg => by simp [Value.ownBlock] at hg, k0.mono (by simp), hR.lt, hv, by omega, by omega, by omega⟩
  clear hb0 hb1 k0 hz0
  obtain ⟨vi, hRi, hVi⟩ := s0.rd
  refine (rtext_any p vi l bad W0 hRi).mono ?_
  rintro e w1 ⟨rfl, h1⟩
  have s1 := s0.next hVi h1
  clear h1 hRi hVi s0
  obtain ⟨c0, c1, c2, c3⟩ := cells4 s1.lbox
  obtain ⟨f0, f1, f2, f3⟩ := free4 s1.lbox
  have H1 := Hid.mk (s1.set0 (rtext l bad).1)
  clear s1
  go_wp2_with fail
  obtain ⟨vi, hRi, hVi⟩ := H1.out.rd
  refine (rnum_any p vi _ _ _ hRi).mono ?_
  rintro e w2 ⟨rfl, h2⟩
  have s2 := H1.out.next hVi h2
  clear h2 hRi hVi H1 c0 c1 c2 c3 f0 f1 f2 f3
  obtain ⟨c0, c1, c2, c3⟩ := cells4 s2.lbox
  obtain ⟨f0, f1, f2, f3⟩ := free4 s2.lbox
  have H2 := Hid.mk (s2.set1 (rnum (rtext l bad).2.1 (rtext l bad).2.2).1)
  clear s2
  go_wp2_with fail
  obtain ⟨vi, hRi, hVi⟩ := H2.out.rd
  refine (rint_any p vi _ _ _ hRi).mono ?_
  rintro e w3 ⟨rfl, h3⟩
  have s3 := H2.out.next hVi h3
  clear h3 hRi hVi H2 c0 c1 c2 c3 f0 f1 f2 f3
  obtain ⟨c0, c1, c2, c3⟩ := cells4 s3.lbox
  obtain ⟨f0, f1, f2, f3⟩ := free4 s3.lbox
  have H3 := Hid.mk (s3.set2 (unfold (rnum (rnum (rtext l bad).2.1 (rtext l bad).2.2).2.1 (rnum (rtext l bad).2.1 (rtext l bad).2.2).2.2).1))
  clear s3
  go_wp2_with fail
  obtain ⟨vi, hRi, hVi⟩ := H3.out.rd
  refine (rnum_any p vi _ _ _ hRi).mono ?_
  rintro e w4 ⟨rfl, h4⟩
  have s4 := H3.out.next hVi h4
  clear h4 hRi hVi H3 c0 c1 c2 c3 f0 f1 f2 f3
  change LS 162 w p v w.heap.size (w.heap.size + 1) w4 (rhead l bad).rest (rhead l bad).bad ⟨(rhead l bad).fr, (rhead l bad).ser, (rhead l bad).kind, []⟩ none 0 at s4
  have hN : (rnum (rnum (rnum (rtext l bad).2.1 (rtext l bad).2.2).2.1 (rnum (rtext l bad).2.1 (rtext l bad).2.2).2.2).2.1 (rnum (rnum (rtext l bad).2.1 (rtext l bad).2.2).2.1 (rnum (rtext l bad).2.1 (rtext l bad).2.2).2.2).2.2).1 = (rhead l bad).n := rfl
  rw [hN]
  clear hN
  generalize hh : rhead l bad = h at s4
  have HH := Hid.mk hh
  clear hh
  obtain ⟨c0, c1, c2, c3⟩ := cells4 s4.lbox
  obtain ⟨d0, d1, d2, d3⟩ := cells4 s4.rbox
  obtain ⟨g0, g1, g2, g3⟩ := free4 s4.rbox
  by_cases hn : 4 < h.n
  · have hnI : (4 : Int) < (h.n : Int) := by omega
    go_wp2_with fail
    obtain ⟨W5, e5, k5, hb5, -⟩ := put4 s4.rbox (.string ⟨#[]⟩) (.int .u64 0) (.int .i64 0) (.slice none 0 0)
    rw [e5]
    clear e5
    refine bodyPost_ret (results_cell_row2 (p := 2) (u := 3) (ty := 25) rfl _ _ w.heap.size 25 _ (0, 0) _ rfl hb5 Tryd.underlying25 rfl (by kernel_rfl) _ rfl) rfl ?_
    exact s4.fail k5 (by unfold rlet; rw [HH.out]; dsimp only; rw [if_pos hn])
  · have hnI : ((4 : Int) < (h.n : Int)) = False := eq_false (by omega)
    clear d0 d1 d2 d3 g0 g1 g2 g3 c0 c1 c2 c3
    go_wp2_with fail
    go_loopw [21] (fun i wr => ∃ (j : Nat) (a : Option Addr) (c : Nat), i = .int .u64 (j : Int) ∧ j ≤ h.n ∧ Hid (LS 162 w p v w.heap.size (w.heap.size + 1) wr (rints j h.rest h.bad).2.1 (rints j h.rest h.bad).2.2 ⟨h.fr, h.ser, h.kind, (rints j h.rest h.bad).1⟩ a c)) (fun i _ => h.n - (intOf i).toNat)
    case atStart => exact ⟨0, none, 0, rfl, by omega, Hid.mk s4⟩
    case round =>
      obtain ⟨j, a, c, rfl, hj, hs⟩ := hrel
      by_cases hlt : j < h.n
      · have hjI : (j : Int) < (h.n : Int) := by omega
        have hjl := rints_length j h.rest h.bad
        have sd := hs.out.drew
        obtain ⟨c0, c1, c2, c3⟩ := cells4 sd.lbox
        obtain ⟨vi, hRi, hVi⟩ := sd.rd
        have hC := rint_any p vi _ _ _ hRi
        have HS := Hid.mk sd
        have HV := Hid.mk hVi
        have HL := Hid.mk hjl
        clear c0 c1 c2 sd hRi hVi hs hjl
        generalize hra : rints j h.rest h.bad = r at hC HS HL c3
        have HR := Hid.mk hra
        clear hra
        go_wp2_with fail
        go_region_law (first | (refine step_append_run 23 (.tmp 24) (.tmp 27) (by rfl) (by rfl) _ _ (by rfl) (by rfl) hrun ?_) | (go_simp; go_at_call 99; refine Calls.mono hC ?_; rintro e w5 ⟨rfl, h5⟩; obtain ⟨a6, c6, w6, hrun, q3, qf, s6⟩ := (HS.out.next HV.out h5).app (unfold (rnum r.2.1 r.2.2).1) (by show r.1.length ≤ 100000; rw [HL.out]; omega); have S6 := Hid.mk s6; clear s6; have q5 := (cells4 (HS.out.next HV.out h5).lbox).2.2.2; have q6 := ((Kept.refl [] w5).alloc (.cells #[.int .i64 (unfold (rnum r.2.1 r.2.2).1)] 2)).cell_eq q5))
        all_goals
          clear hC q3 qf q5 q6 hrun c3
          go_wp2
          go_roundw
          case rel =>
            refine ⟨j + 1, a6, c6, by go_num, by omega, Hid.mk ?_⟩
            rw [rints_snoc, HR.out]
            exact S6.out
          case measure => simp [intOf]; omega
      · obtain rfl : j = h.n := by omega
        have HL : Hid (rlet l bad = if (rints h.n h.rest h.bad).2.2 = true ∨ 40 < h.fr.length then (none, (rints h.n h.rest h.bad).2.1, (rints h.n h.rest h.bad).2.2) else (some ⟨h.fr, h.ser, h.kind, (rints h.n h.rest h.bad).1⟩, (rints h.n h.rest h.bad).2.1, (rints h.n h.rest h.bad).2.2)) := by
          show _ = _
          unfold rlet
          rw [HH.out]
          dsimp only
          rw [if_neg hn]
        have hrl := rints_length h.n h.rest h.bad
        generalize rints h.n h.rest h.bad = r at hs HL hrl
        have hfm : (⟨h.fr, h.ser, h.kind, r.1⟩ : Lt).formed = decide (h.fr.length ≤ 40) := by
          unfold Lt.formed
          dsimp only
          rw [hrl]
          simp
          omega
        have HF := fun W => formed13 (w := W) ⟨h.fr, h.ser, h.kind, r.1⟩ a c
        rw [hfm] at HF
        have HF := Hid.mk HF
        clear hfm
        obtain ⟨vi, hRi, hVi⟩ := hs.out.rd
        have hB := bad_any p vi _ _ _ hRi
        have HV := Hid.mk hVi
        clear hRi hVi
        obtain ⟨c0, c1, c2, c3⟩ := cells4 hs.out.lbox
        obtain ⟨d0, d1, d2, d3⟩ := cells4 hs.out.rbox
        obtain ⟨g0, g1, g2, g3⟩ := free4 hs.out.rbox
        have HR := Hid.mk hrl
        clear hrl
        go_wp2_with fail
        refine Calls.mono hB ?_
        rintro e w5 ⟨rfl, rfl⟩
        cases hrb : r.2.2 with
        | true =>
          have HB := Hid.mk hrb
          go_wp2_with fail
          obtain ⟨W5, e5, k5, hb5, -⟩ := put4 hs.out.rbox (.string ⟨#[]⟩) (.int .u64 0) (.int .i64 0) (.slice none 0 0)
          rw [e5]
          clear e5
          refine bodyPost_ret (results_cell_row2 (p := 2) (u := 3) (ty := 25) rfl _ _ w.heap.size 25 _ (0, 0) _ rfl hb5 Tryd.underlying25 rfl (by kernel_rfl) _ rfl) rfl ?_
          exact hs.out.fail k5 (by rw [HL.out, if_pos (.inl HB.out)])
        | false =>
          have HB := Hid.mk hrb
          clear hrb
          go_wp2_with fail
          refine (HF.out _).mono ?_
          rintro e w6 ⟨rfl, k6⟩
          have s6 := hs.out.kept0 k6
          clear c0 c1 c2 c3 d0 d1 d2 d3 g0 g1 g2 g3
          obtain ⟨c0, c1, c2, c3⟩ := cells4 s6.lbox
          obtain ⟨d0, d1, d2, d3⟩ := cells4 s6.rbox
          obtain ⟨g0, g1, g2, g3⟩ := free4 s6.rbox
          have S6 := Hid.mk s6
          clear s6
          by_cases hf : h.fr.length ≤ 40
          · have hfd : decide (h.fr.length ≤ 40) = true := by simp [hf]
            rw [hfd]
            go_wp2_with fail
            obtain ⟨W5, e5, k5, hb5, -⟩ := put4 S6.out.rbox (Sv h.fr) (.int .u64 (h.ser : Int)) (.int .i64 h.kind) (.slice a r.1.length c)
            rw [e5]
            clear e5
            refine bodyPost_ret (results_cell_row2 (p := 2) (u := 3) (ty := 25) rfl _ _ w.heap.size 25 _ (0, 0) _ rfl hb5 Tryd.underlying25 rfl (by kernel_rfl) _ rfl) rfl ?_
            exact S6.out.done k5 (by rw [HL.out, if_neg (by rw [HB.out]; simp; omega)])
          · have hfd : decide (h.fr.length ≤ 40) = false := by simp [hf]
            rw [hfd]
            go_wp2_with fail
            obtain ⟨W5, e5, k5, hb5, -⟩ := put4 S6.out.rbox (.string ⟨#[]⟩) (.int .u64 0) (.int .i64 0) (.slice none 0 0)
            rw [e5]
            clear e5
            refine bodyPost_ret (results_cell_row2 (p := 2) (u := 3) (ty := 25) rfl _ _ w.heap.size 25 _ (0, 0) _ rfl hb5 Tryd.underlying25 rfl (by kernel_rfl) _ rfl) rfl ?_
            exact S6.out.fail k5 (by rw [HL.out, if_pos (.inr (by omega))])
end
end Go.Proofs.YtngnenbidpojeaaDoor
/-
  The document's own Reader: Number, Int, Text, End, Of.
-/
namespace Go.Proofs.YtngnenbidpojeaaDoor
set_option maxRecDepth 100000
open Go.RowKit
set_option linter.unusedVariables false
/-- The slice v lies in memory that is there. -/
def Inside (w : World) (v : Value) : Prop := ∀ g, v.ownBlock = some g → g < w.heap.size
set_option maxHeartbeats 400000 in
theorem newr_in (v : Value) (l : List UInt8) (w : World) (h : Reads w v l) (hl : l.length ≤ 140737488355328) :
    Calls Tryd.prog 83 #[v] w fun e w' => ∃ p v', e = .returned (.pointer (some ⟨p, 0, none⟩)) ∧ IsR 162 w' p v' l false ∧ Kept [] w w' ∧ Fresh w v' ∧ w.heap.size ≤ p ∧ Inside w' v' := by
  go_enter Tryd.func83, Tryd.ntmps83
  go_wp2_with (go_at_call 75; refine (clone_any v l _ h hl).mono ?_; rintro e w1 ⟨v1, rfl, hown, hk, hf⟩; obtain ⟨a1, c1, hv1⟩ := hown.form; rw [hv1])
  go_ret
  subst hv1
  have hne : (Value.slice a1 l.length c1).ownBlock ≠ some w1.heap.size := fun h => by have := hown.lt h; omega
  exact ⟨w1.heap.size, _, rfl, ⟨heap_alloc_new w1 _, hown.reads.kept ((Kept.refl [] w1).alloc _) (by simp), hne, by simp⟩, hk.alloc _, hf, hk.size, fun g hg => by have := hown.lt hg; simp; omega⟩
end Go.Proofs.YtngnenbidpojeaaDoor
/-
  Decode, and the document's.
-/
namespace Go.Proofs.YtngnenbidpojeaaDoor
set_option maxRecDepth 100000
open Go.RowKit
set_option linter.unusedVariables false
/-- The letter that bytes are, wholly. -/
def decL (l : List UInt8) : Option Lt := if (!(rlet l false).2.2 && (rlet l false).2.1.isEmpty) = true then (rlet l false).1 else none
theorem decL_ok {l : List UInt8} {x : Lt} (h : decL l = some x) : x.ok ∧ x.formed = true := by
  unfold decL at h
  split at h
  · exact rlet_ok h
  · cases h
theorem formed_le {x : Lt} (h : x.formed = true) : x.fr.length ≤ 40 ∧ x.args.length ≤ 4 := by simpa [Lt.formed] using h
/-- What is encoded is decoded as it was. -/
theorem decL_enc {x : Lt} (hx : x.ok) (hf : x.formed = true) : decL (encL x) = some x := by
  have h := rlet_back x hx hf []
  rw [List.append_nil] at h
  unfold decL
  rw [h]
  rfl
/-- What Decode answers. -/
def DecAt (w : World) (l : List UInt8) (e : Ending) (w' : World) : Prop :=
  ∃ (a : Option Addr) (c : Nat), e = .returned (.tuple #[Lv ((decL l).getD default) a c, .int .i64 (if (decL l).isSome = true then 0 else 2)]) ∧ OwnsJ w' (.slice a ((decL l).getD default).args.length c) ((decL l).getD default).args ∧ Kept [] w w' ∧ Fresh w (.slice a ((decL l).getD default).args.length c)
theorem decAt_none {w w' : World} {l : List UInt8} (h : decL l = none) (k : Kept [] w w') : DecAt w l (.returned (.tuple #[Lv ⟨[], 0, 0, []⟩ none 0, .int .i64 2])) w' := by
  unfold DecAt
  rw [h]
  exact ⟨none, 0, rfl, OwnsJ.nil w', k, fresh_nil w 0⟩
theorem decAt_some {w w' : World} {l : List UInt8} {x : Lt} {a : Option Addr} {c : Nat} (h : decL l = some x) (ho : OwnsJ w' (.slice a x.args.length c) x.args) (k : Kept [] w w') (hf : Fresh w (.slice a x.args.length c)) : DecAt w l (.returned (.tuple #[Lv x a c, .int .i64 0])) w' := by
  unfold DecAt
  rw [h]
  exact ⟨a, c, rfl, ho, k, hf⟩
section
variable {w : World}
end
end Go.Proofs.YtngnenbidpojeaaDoor
/-
  Numbers, texts and integers that bytes begin with, as options; without memory.
-/
namespace Go.Proofs.YtngnenbidpojeaaDoor
set_option maxRecDepth 100000
set_option linter.unusedVariables false
def U64 (n : Nat) : Prop := n < 18446744073709551616
/-- The number that bytes begin with, and what is left. -/
def num (l : List UInt8) : Option (Nat × List UInt8) := if (dec l).2 = 0 then none else some ((dec l).1, l.drop (dec l).2)
theorem num_none {l : List UInt8} (h : num l = none) : rnum l false = (0, [], true) := by
  unfold num at h
  unfold rnum
  split at h
  · rename_i h0; rw [if_pos h0]
  · cases h
theorem num_some {l r : List UInt8} {n : Nat} (h : num l = some (n, r)) : rnum l false = (n, r, false) := by
  unfold num at h
  unfold rnum
  split at h
  · cases h
  · rename_i h0
    rw [if_neg h0]
    simp only [Option.some.injEq, Prod.mk.injEq] at h
    rw [h.1, h.2]
theorem num_lt {l r : List UInt8} {n : Nat} (h : num l = some (n, r)) : U64 n := by
  have := rnum_lt l false
  rw [num_some h] at this
  exact this
theorem num_fwd {l r : List UInt8} {n : Nat} (h : num l = some (n, r)) : l = enc n ++ r := by
  have := (rnum_fwd (l := l) (bad := false) (by rw [num_some h])).2
  rw [num_some h] at this
  exact this
theorem num_back (n : Nat) (h : U64 n) (r : List UInt8) : num (enc n ++ r) = some (n, r) := by
  have h1 := dec_enc n h r
  unfold num
  rw [h1, if_neg (by have := enc_length n; show (enc n).length ≠ 0; omega)]
  simp
theorem rnum_bad2 : rnum [] true = (0, [], true) := rfl
/-- A text's bytes. -/
def encTx (t : List UInt8) : List UInt8 := enc t.length ++ t
/-- The text that bytes begin with. -/
def txt (l : List UInt8) : Option (List UInt8 × List UInt8) := (num l).bind fun x => if x.2.length < x.1 then none else some (x.2.take x.1, x.2.drop x.1)
theorem txt_none {l : List UInt8} (h : txt l = none) : rtext l false = ([], [], true) := by
  unfold txt at h
  unfold rtext
  cases hn : num l with
  | none =>
    rw [num_none hn]
    rfl
  | some x =>
    obtain ⟨n, r⟩ := x
    rw [hn] at h
    dsimp only [Option.bind_some] at h
    rw [num_some hn]
    split at h
    · rename_i h0; rw [if_pos h0]
    · cases h
theorem txt_some {l r t : List UInt8} (h : txt l = some (t, r)) : rtext l false = (t, r, false) := by
  unfold txt at h
  unfold rtext
  cases hn : num l with
  | none => rw [hn] at h; cases h
  | some x =>
    obtain ⟨n, q⟩ := x
    rw [hn] at h
    dsimp only [Option.bind_some] at h
    rw [num_some hn]
    split at h
    · cases h
    · rename_i h0
      simp only [Option.some.injEq, Prod.mk.injEq] at h
      rw [if_neg h0]
      rw [h.1, h.2]
theorem txt_fwd {l r t : List UInt8} (h : txt l = some (t, r)) : l = encTx t ++ r := by
  have := (rtext_fwd (l := l) (bad := false) (by rw [txt_some h])).2
  rw [txt_some h] at this
  unfold encTx
  rw [List.append_assoc]
  exact this
theorem txt_back (t : List UInt8) (h : t.length < 18446744073709551616) (r : List UInt8) : txt (encTx t ++ r) = some (t, r) := by
  unfold txt encTx
  rw [List.append_assoc, num_back t.length h]
  dsimp only [Option.bind_some]
  rw [if_neg (by simp)]
  simp
/-- The integer that bytes begin with. -/
def int (l : List UInt8) : Option (Int × List UInt8) := (num l).map fun x => (unfold x.1, x.2)
end Go.Proofs.YtngnenbidpojeaaDoor
