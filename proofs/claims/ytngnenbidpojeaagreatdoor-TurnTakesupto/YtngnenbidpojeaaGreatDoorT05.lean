import Derived.OpenShut
import Derived.Deep.QuietTactic
import Derived.BigQuiet
import Derived.Test.YtngnenbidpojeaaGreatDoorT02
import Derived.Test.YtngnenbidpojeaaGreatDoorT03
import Derived.Test.YtngnenbidpojeaaGreatDoorT04
/-
 read: the letter that a Reader's bytes begin with.
-/
namespace Go.Proofs.YtngnenbidpojeaaGreatDoor
set_option maxRecDepth 100000
open Go.RowKit
set_option linter.unusedVariables false
section
variable {w : World}
set_option maxRecDepth 100000 in
set_option maxHeartbeats 1000000 in
theorem read34 (p : Nat) (v : Value) (l : List UInt8) (bad : Bool) (hR : IsR 212 w p v l bad) (hv : ∀ g, v.ownBlock = some g → g < w.heap.size) : Calls Tryz.prog 144 #[.pointer (some ⟨p, 0, none⟩)] w fun e w' => LetAt 212 w p v l bad e w' := by
 go_enter Tryz.func144, Tryz.ntmps144
 go_wp2_with fail
 obtain ⟨W0, e0, k0, hz0, hb0, hb1⟩ := box2 w (.cells #[.string ⟨#[]⟩, .int .u64 0, .int .i64 0, .slice none 0 0] 81) (.cells #[.string ⟨#[]⟩, .int .u64 0, .int .i64 0, .slice none 0 0] 81)
 rw [e0]
 clear e0
 have s0 : LS 212 w p v w.heap.size (w.heap.size + 1) W0 l bad ⟨[], 0, 0, []⟩ none 0 := ⟨⟨v, hR.kept k0 (by simp) (by simp), Within.refl v⟩, hb1, hb0, OwnsJ.nil W0, fun g hg => by simp [Value.ownBlock] at hg, k0.mono (by simp), hR.lt, hv, by omega, by omega, by omega⟩
 clear hb0 hb1 k0 hz0
 obtain ⟨vi, hRi, hVi⟩ := s0.rd
 refine (rtext_any p vi l bad W0 hRi).mono ?_
 rintro e w1 ⟨rfl, h1⟩
 have s1 := s0.next hVi h1
 clear h1 hRi hVi s0
 obtain ⟨c0, c1, c2, c3⟩ := cells4 s1.lbox
 obtain ⟨f0, f1, f2, f3⟩ := free4 s1.lbox
 have H1 := Hid.mk (s1.set0 (rtext l bad).1)
 clear s1
 go_wp2_with fail
 obtain ⟨vi, hRi, hVi⟩ := H1.out.rd
 refine (rnum_any p vi _ _ _ hRi).mono ?_
 rintro e w2 ⟨rfl, h2⟩
 have s2 := H1.out.next hVi h2
 clear h2 hRi hVi H1 c0 c1 c2 c3 f0 f1 f2 f3
 obtain ⟨c0, c1, c2, c3⟩ := cells4 s2.lbox
 obtain ⟨f0, f1, f2, f3⟩ := free4 s2.lbox
 have H2 := Hid.mk (s2.set1 (rnum (rtext l bad).2.1 (rtext l bad).2.2).1)
 clear s2
 go_wp2_with fail
 obtain ⟨vi, hRi, hVi⟩ := H2.out.rd
 refine (rint_any p vi _ _ _ hRi).mono ?_
 rintro e w3 ⟨rfl, h3⟩
 have s3 := H2.out.next hVi h3
 clear h3 hRi hVi H2 c0 c1 c2 c3 f0 f1 f2 f3
 obtain ⟨c0, c1, c2, c3⟩ := cells4 s3.lbox
 obtain ⟨f0, f1, f2, f3⟩ := free4 s3.lbox
 have H3 := Hid.mk (s3.set2 (unfold (rnum (rnum (rtext l bad).2.1 (rtext l bad).2.2).2.1 (rnum (rtext l bad).2.1 (rtext l bad).2.2).2.2).1))
 clear s3
 go_wp2_with fail
 obtain ⟨vi, hRi, hVi⟩ := H3.out.rd
 refine (rnum_any p vi _ _ _ hRi).mono ?_
 rintro e w4 ⟨rfl, h4⟩
 have s4 := H3.out.next hVi h4
 clear h4 hRi hVi H3 c0 c1 c2 c3 f0 f1 f2 f3
 change LS 212 w p v w.heap.size (w.heap.size + 1) w4 (rhead l bad).rest (rhead l bad).bad ⟨(rhead l bad).fr, (rhead l bad).ser, (rhead l bad).kind, []⟩ none 0 at s4
 have hN : (rnum (rnum (rnum (rtext l bad).2.1 (rtext l bad).2.2).2.1 (rnum (rtext l bad).2.1 (rtext l bad).2.2).2.2).2.1 (rnum (rnum (rtext l bad).2.1 (rtext l bad).2.2).2.1 (rnum (rtext l bad).2.1 (rtext l bad).2.2).2.2).2.2).1 = (rhead l bad).n := rfl
 rw [hN]
 clear hN
 generalize hh : rhead l bad = h at s4
 have HH := Hid.mk hh
 clear hh
 obtain ⟨c0, c1, c2, c3⟩ := cells4 s4.lbox
 obtain ⟨d0, d1, d2, d3⟩ := cells4 s4.rbox
 obtain ⟨g0, g1, g2, g3⟩ := free4 s4.rbox
 by_cases hn : 4 < h.n
 ·have hnI : (4 : Int) < (h.n : Int) := by omega
  go_wp2_with fail
  obtain ⟨W5, e5, k5, hb5, -⟩ := put4 s4.rbox (.string ⟨#[]⟩) (.int .u64 0) (.int .i64 0) (.slice none 0 0)
  rw [e5]
  clear e5
  refine bodyPost_ret (results_cell_row2 (p := 2) (u := 3) (ty := 81) rfl _ _ w.heap.size 81 _ (0, 0) _ rfl hb5 Tryz.underlying81 rfl (by kernel_rfl) _ rfl) rfl ?_
  exact s4.fail k5 (by unfold rlet; rw [HH.out]; dsimp only; rw [if_pos hn])
 ·have hnI : ((4 : Int) < (h.n : Int)) = False := eq_false (by omega)
  clear d0 d1 d2 d3 g0 g1 g2 g3 c0 c1 c2 c3
  go_wp2_with fail
  go_loopw [21] (fun i wr => ∃ (j : Nat) (a : Option Addr) (c : Nat), i = .int .u64 (j : Int) ∧ j ≤ h.n ∧ Hid (LS 212 w p v w.heap.size (w.heap.size + 1) wr (rints j h.rest h.bad).2.1 (rints j h.rest h.bad).2.2 ⟨h.fr, h.ser, h.kind, (rints j h.rest h.bad).1⟩ a c)) (fun i _ => h.n - (intOf i).toNat)
  case atStart => exact ⟨0, none, 0, rfl, by omega, Hid.mk s4⟩
  case round =>
   obtain ⟨j, a, c, rfl, hj, hs⟩ := hrel
   by_cases hlt : j < h.n
   ·have hjI : (j : Int) < (h.n : Int) := by omega
    have hjl := rints_length j h.rest h.bad
    have sd := hs.out.drew
    obtain ⟨c0, c1, c2, c3⟩ := cells4 sd.lbox
    obtain ⟨vi, hRi, hVi⟩ := sd.rd
    have hC := rint_any p vi _ _ _ hRi
    have HS := Hid.mk sd
    have HV := Hid.mk hVi
    have HL := Hid.mk hjl
    clear c0 c1 c2 sd hRi hVi hs hjl
    generalize hra : rints j h.rest h.bad = r at hC HS HL c3
    have HR := Hid.mk hra
    clear hra
    go_wp2_with fail
    go_region_law (first | (refine step_append_run 79 (.tmp 24) (.tmp 27) (by rfl) (by rfl) _ _ (by rfl) (by rfl) hrun ?_) | (go_simp; go_at_call 140; refine Calls.mono hC ?_; rintro e w5 ⟨rfl, h5⟩; obtain ⟨a6, c6, w6, hrun, q3, qf, s6⟩ := (HS.out.next HV.out h5).app (unfold (rnum r.2.1 r.2.2).1) (by show r.1.length ≤ 100000; rw [HL.out]; omega); have S6 := Hid.mk s6; clear s6; have q5 := (cells4 (HS.out.next HV.out h5).lbox).2.2.2; have q6 := ((Kept.refl [] w5).alloc (.cells #[.int .i64 (unfold (rnum r.2.1 r.2.2).1)] 2)).cell_eq q5))
    all_goals
     clear hC q3 qf q5 q6 hrun c3
     go_wp2
     go_roundw
     case rel =>
      refine ⟨j + 1, a6, c6, by go_num, by omega, Hid.mk ?_⟩
      rw [rints_snoc, HR.out]
      exact S6.out
     case measure => simp [intOf]; omega
   ·obtain rfl : j = h.n := by omega
    have HL : Hid (rlet l bad = if (rints h.n h.rest h.bad).2.2 = true ∨ 40 < h.fr.length then (none, (rints h.n h.rest h.bad).2.1, (rints h.n h.rest h.bad).2.2) else (some ⟨h.fr, h.ser, h.kind, (rints h.n h.rest h.bad).1⟩, (rints h.n h.rest h.bad).2.1, (rints h.n h.rest h.bad).2.2)) := by
     show _ = _
     unfold rlet
     rw [HH.out]
     dsimp only
     rw [if_neg hn]
    have hrl := rints_length h.n h.rest h.bad
    generalize rints h.n h.rest h.bad = r at hs HL hrl
    have hfm : (⟨h.fr, h.ser, h.kind, r.1⟩ : Lt).formed = decide (h.fr.length ≤ 40) := by
     unfold Lt.formed
     dsimp only
     rw [hrl]
     simp
     omega
    have HF := fun W => formed13 (w := W) ⟨h.fr, h.ser, h.kind, r.1⟩ a c
    rw [hfm] at HF
    have HF := Hid.mk HF
    clear hfm
    obtain ⟨vi, hRi, hVi⟩ := hs.out.rd
    have hB := bad_any p vi _ _ _ hRi
    have HV := Hid.mk hVi
    clear hRi hVi
    obtain ⟨c0, c1, c2, c3⟩ := cells4 hs.out.lbox
    obtain ⟨d0, d1, d2, d3⟩ := cells4 hs.out.rbox
    obtain ⟨g0, g1, g2, g3⟩ := free4 hs.out.rbox
    have HR := Hid.mk hrl
    clear hrl
    go_wp2_with fail
    refine Calls.mono hB ?_
    rintro e w5 ⟨rfl, rfl⟩
    cases hrb : r.2.2 with
    | true =>
     have HB := Hid.mk hrb
     go_wp2_with fail
     obtain ⟨W5, e5, k5, hb5, -⟩ := put4 hs.out.rbox (.string ⟨#[]⟩) (.int .u64 0) (.int .i64 0) (.slice none 0 0)
     rw [e5]
     clear e5
     refine bodyPost_ret (results_cell_row2 (p := 2) (u := 3) (ty := 81) rfl _ _ w.heap.size 81 _ (0, 0) _ rfl hb5 Tryz.underlying81 rfl (by kernel_rfl) _ rfl) rfl ?_
     exact hs.out.fail k5 (by rw [HL.out, if_pos (.inl HB.out)])
    | false =>
     have HB := Hid.mk hrb
     clear hrb
     go_wp2_with fail
     refine (HF.out _).mono ?_
     rintro e w6 ⟨rfl, k6⟩
     have s6 := hs.out.kept0 k6
     clear c0 c1 c2 c3 d0 d1 d2 d3 g0 g1 g2 g3
     obtain ⟨c0, c1, c2, c3⟩ := cells4 s6.lbox
     obtain ⟨d0, d1, d2, d3⟩ := cells4 s6.rbox
     obtain ⟨g0, g1, g2, g3⟩ := free4 s6.rbox
     have S6 := Hid.mk s6
     clear s6
     by_cases hf : h.fr.length ≤ 40
     ·have hfd : decide (h.fr.length ≤ 40) = true := by simp [hf]
      rw [hfd]
      go_wp2_with fail
      obtain ⟨W5, e5, k5, hb5, -⟩ := put4 S6.out.rbox (Sv h.fr) (.int .u64 (h.ser : Int)) (.int .i64 h.kind) (.slice a r.1.length c)
      rw [e5]
      clear e5
      refine bodyPost_ret (results_cell_row2 (p := 2) (u := 3) (ty := 81) rfl _ _ w.heap.size 81 _ (0, 0) _ rfl hb5 Tryz.underlying81 rfl (by kernel_rfl) _ rfl) rfl ?_
      exact S6.out.done k5 (by rw [HL.out, if_neg (by rw [HB.out]; simp; omega)])
     ·have hfd : decide (h.fr.length ≤ 40) = false := by simp [hf]
      rw [hfd]
      go_wp2_with fail
      obtain ⟨W5, e5, k5, hb5, -⟩ := put4 S6.out.rbox (.string ⟨#[]⟩) (.int .u64 0) (.int .i64 0) (.slice none 0 0)
      rw [e5]
      clear e5
      refine bodyPost_ret (results_cell_row2 (p := 2) (u := 3) (ty := 81) rfl _ _ w.heap.size 81 _ (0, 0) _ rfl hb5 Tryz.underlying81 rfl (by kernel_rfl) _ rfl) rfl ?_
      exact S6.out.fail k5 (by rw [HL.out, if_pos (.inr (by omega))])
end
def Inside (w : World) (v : Value) : Prop := ∀ g, v.ownBlock = some g → g < w.heap.size
set_option maxHeartbeats 400000 in
theorem newr_in (v : Value) (l : List UInt8) (w : World) (h : Reads w v l) (hl : l.length ≤ 140737488355328) :
  Calls Tryz.prog 70 #[v] w fun e w' => ∃ p v', e = .returned (.pointer (some ⟨p, 0, none⟩)) ∧ IsR 212 w' p v' l false ∧ Kept [] w w' ∧ Fresh w v' ∧ w.heap.size ≤ p ∧ Inside w' v' := by
 go_enter Tryz.func70, Tryz.ntmps70
 go_wp2_with (go_at_call 112; refine (clone_any v l _ h hl).mono ?_; rintro e w1 ⟨v1, rfl, hown, hk, hf⟩; obtain ⟨a1, c1, hv1⟩ := hown.form; rw [hv1])
 go_ret
 subst hv1
 have hne : (Value.slice a1 l.length c1).ownBlock ≠ some w1.heap.size := fun h => by have := hown.lt h; omega
 exact ⟨w1.heap.size, _, rfl, ⟨heap_alloc_new w1 _, hown.reads.kept ((Kept.refl [] w1).alloc _) (by simp), hne, by simp⟩, hk.alloc _, hf, hk.size, fun g hg => by have := hown.lt hg; simp; omega⟩
def decL (l : List UInt8) : Option Lt := if (!(rlet l false).2.2 && (rlet l false).2.1.isEmpty) = true then (rlet l false).1 else none
theorem decL_ok {l : List UInt8} {x : Lt} (h : decL l = some x) : x.ok ∧ x.formed = true := by
 unfold decL at h
 split at h
 ·exact rlet_ok h
 ·cases h
theorem formed_le {x : Lt} (h : x.formed = true) : x.fr.length ≤ 40 ∧ x.args.length ≤ 4 := by simpa [Lt.formed] using h
theorem decL_enc {x : Lt} (hx : x.ok) (hf : x.formed = true) : decL (encL x) = some x := by
 have h := rlet_back x hx hf []
 rw [List.append_nil] at h
 unfold decL
 rw [h]
 rfl
def DecAt (w : World) (l : List UInt8) (e : Ending) (w' : World) : Prop :=
 ∃ (a : Option Addr) (c : Nat), e = .returned (.tuple #[Lv ((decL l).getD default) a c, .int .i64 (if (decL l).isSome = true then 0 else 2)]) ∧ OwnsJ w' (.slice a ((decL l).getD default).args.length c) ((decL l).getD default).args ∧ Kept [] w w' ∧ Fresh w (.slice a ((decL l).getD default).args.length c)
theorem decAt_none {w w' : World} {l : List UInt8} (h : decL l = none) (k : Kept [] w w') : DecAt w l (.returned (.tuple #[Lv ⟨[], 0, 0, []⟩ none 0, .int .i64 2])) w' := by
 unfold DecAt
 rw [h]
 exact ⟨none, 0, rfl, OwnsJ.nil w', k, fresh_nil w 0⟩
theorem decAt_some {w w' : World} {l : List UInt8} {x : Lt} {a : Option Addr} {c : Nat} (h : decL l = some x) (ho : OwnsJ w' (.slice a x.args.length c) x.args) (k : Kept [] w w') (hf : Fresh w (.slice a x.args.length c)) : DecAt w l (.returned (.tuple #[Lv x a c, .int .i64 0])) w' := by
 unfold DecAt
 rw [h]
 exact ⟨a, c, rfl, ho, k, hf⟩
section
variable {w : World}
end
end Go.Proofs.YtngnenbidpojeaaGreatDoor
namespace Go.Proofs.YtngnenbidpojeaaGreatDoor
set_option maxRecDepth 100000
set_option linter.unusedVariables false
def U64 (n : Nat) : Prop := n < 18446744073709551616
def num (l : List UInt8) : Option (Nat × List UInt8) := if (dec l).2 = 0 then none else some ((dec l).1, l.drop (dec l).2)
theorem num_none {l : List UInt8} (h : num l = none) : rnum l false = (0, [], true) := by
 unfold num at h
 unfold rnum
 split at h
 ·rename_i h0; rw [if_pos h0]
 ·cases h
theorem num_some {l r : List UInt8} {n : Nat} (h : num l = some (n, r)) : rnum l false = (n, r, false) := by
 unfold num at h
 unfold rnum
 split at h
 ·cases h
 ·rename_i h0
  rw [if_neg h0]
  simp only [Option.some.injEq, Prod.mk.injEq] at h
  rw [h.1, h.2]
theorem num_lt {l r : List UInt8} {n : Nat} (h : num l = some (n, r)) : U64 n := by
 have := rnum_lt l false
 rw [num_some h] at this
 exact this
theorem num_fwd {l r : List UInt8} {n : Nat} (h : num l = some (n, r)) : l = enc n ++ r := by
 have := (rnum_fwd (l := l) (bad := false) (by rw [num_some h])).2
 rw [num_some h] at this
 exact this
theorem num_back (n : Nat) (h : U64 n) (r : List UInt8) : num (enc n ++ r) = some (n, r) := by
 have h1 := dec_enc n h r
 unfold num
 rw [h1, if_neg (by have := enc_length n; show (enc n).length ≠ 0; omega)]
 simp
theorem rnum_bad2 : rnum [] true = (0, [], true) := rfl
def encTx (t : List UInt8) : List UInt8 := enc t.length ++ t
def txt (l : List UInt8) : Option (List UInt8 × List UInt8) := (num l).bind fun x => if x.2.length < x.1 then none else some (x.2.take x.1, x.2.drop x.1)
theorem txt_none {l : List UInt8} (h : txt l = none) : rtext l false = ([], [], true) := by
 unfold txt at h
 unfold rtext
 cases hn : num l with
 | none =>
  rw [num_none hn]
  rfl
 | some x =>
  obtain ⟨n, r⟩ := x
  rw [hn] at h
  dsimp only [Option.bind_some] at h
  rw [num_some hn]
  split at h
  ·rename_i h0; rw [if_pos h0]
  ·cases h
theorem txt_some {l r t : List UInt8} (h : txt l = some (t, r)) : rtext l false = (t, r, false) := by
 unfold txt at h
 unfold rtext
 cases hn : num l with
 | none => rw [hn] at h; cases h
 | some x =>
  obtain ⟨n, q⟩ := x
  rw [hn] at h
  dsimp only [Option.bind_some] at h
  rw [num_some hn]
  split at h
  ·cases h
  ·rename_i h0
   simp only [Option.some.injEq, Prod.mk.injEq] at h
   rw [if_neg h0]
   rw [h.1, h.2]
theorem txt_fwd {l r t : List UInt8} (h : txt l = some (t, r)) : l = encTx t ++ r := by
 have := (rtext_fwd (l := l) (bad := false) (by rw [txt_some h])).2
 rw [txt_some h] at this
 unfold encTx
 rw [List.append_assoc]
 exact this
theorem txt_back (t : List UInt8) (h : t.length < 18446744073709551616) (r : List UInt8) : txt (encTx t ++ r) = some (t, r) := by
 unfold txt encTx
 rw [List.append_assoc, num_back t.length h]
 dsimp only [Option.bind_some]
 rw [if_neg (by simp)]
 simp
structure Ot where
 to : List UInt8
 x : Lt
instance : Inhabited Ot := ⟨⟨[], default⟩⟩
structure La where
 k : List UInt8
 s : Nat
instance : Inhabited La := ⟨⟨[], 0⟩⟩
structure Ob where
 own : List UInt8
 K : List La
 L : List Ot
def isKey (k : List UInt8) : Bool := decide (1 ≤ k.length) && decide (k.length ≤ 40)
theorem isKey_iff (k : List UInt8) : isKey k = true ↔ 1 ≤ k.length ∧ k.length ≤ 40 := by simp [isKey]
def pla : List La → List UInt8 → Nat
 | [], _ => 0
 | y :: K, to => if y.k < to then pla K to + 1 else 0
def hasK : List La → List UInt8 → Bool
 | [], _ => false
 | y :: K, to => if y.k < to then hasK K to else decide (y.k = to)
def ser : List La → List UInt8 → Nat
 | [], _ => 0
 | y :: K, to => if y.k < to then ser K to else if y.k = to then y.s else 0
def setK : List La → List UInt8 → Nat → List La
 | [], to, s => [⟨to, s⟩]
 | y :: K, to, s => if y.k < to then y :: setK K to s else if y.k = to then ⟨to, s⟩ :: K else ⟨to, s⟩ :: y :: K
theorem pla_le (K : List La) (to : List UInt8) : pla K to ≤ K.length := by
 induction K with
 | nil => simp [pla]
 | cons y K ih => rw [pla]; split <;> simp; omega
theorem pla_lt : ∀ {K : List La} {to : List UInt8} {j : Nat} {y : La}, K[j]? = some y → j < pla K to → y.k < to
 | [], to, j, y, hj, h => by simp at hj
 | x :: K, to, 0, y, hj, h => by
  simp at hj
  subst hj
  rw [pla] at h
  split at h
  ·assumption
  ·omega
 | x :: K, to, j + 1, y, hj, h => by
  rw [pla] at h
  split at h
  ·exact pla_lt (K := K) (by simpa using hj) (by omega)
  ·omega
theorem pla_at : ∀ {K : List La} {to : List UInt8} {y : La}, K[pla K to]? = some y → ¬ y.k < to
 | [], to, y, h => by simp at h
 | x :: K, to, y, h => by
  rw [pla] at h
  split at h
  ·exact pla_at (K := K) (by simpa using h)
  ·rename_i hx
   simp at h
   subst h
   exact hx
theorem has_at : ∀ {K : List La} {to : List UInt8}, hasK K to = true → ∃ s, K[pla K to]? = some ⟨to, s⟩ ∧ ser K to = s
 | [], to, h => by simp [hasK] at h
 | x :: K, to, h => by
  rw [hasK] at h
  rw [pla, ser]
  split at h
  ·rename_i hx
   rw [if_pos hx, if_pos hx]
   obtain ⟨s, h1, h2⟩ := has_at h
   exact ⟨s, by simpa using h1, h2⟩
  ·rename_i hx
   rw [if_neg hx, if_neg hx]
   have hk : x.k = to := by simpa using h
   rw [if_pos hk]
   obtain ⟨k, s⟩ := x
   dsimp only at hk
   subst hk
   exact ⟨s, rfl, rfl⟩
theorem has_not : ∀ {K : List La} {to : List UInt8}, hasK K to = false → ser K to = 0 ∧ ∀ y, K[pla K to]? = some y → y.k ≠ to
 | [], to, h => ⟨rfl, by simp⟩
 | x :: K, to, h => by
  rw [hasK] at h
  rw [pla, ser]
  split at h
  ·rename_i hx
   rw [if_pos hx, if_pos hx]
   obtain ⟨h1, h2⟩ := has_not h
   exact ⟨h1, fun y hy => h2 y (by simpa using hy)⟩
  ·rename_i hx
   rw [if_neg hx, if_neg hx]
   have hk : x.k ≠ to := by simpa using h
   rw [if_neg hk]
   exact ⟨rfl, fun y hy => by simp at hy; subst hy; exact hk⟩
theorem setK_has : ∀ {K : List La} {to : List UInt8} (s : Nat), hasK K to = true → setK K to s = K.set (pla K to) ⟨to, s⟩
 | [], to, s, h => by simp [hasK] at h
 | x :: K, to, s, h => by
  rw [hasK] at h
  rw [setK, pla]
  split at h
  ·rename_i hx
   rw [if_pos hx, if_pos hx, List.set_cons_succ, setK_has s h]
  ·rename_i hx
   rw [if_neg hx, if_neg hx, if_pos (by simpa using h)]
   rfl
theorem setK_new : ∀ {K : List La} {to : List UInt8} (s : Nat), hasK K to = false → setK K to s = K.take (pla K to) ++ ⟨to, s⟩ :: K.drop (pla K to)
 | [], to, s, h => rfl
 | x :: K, to, s, h => by
  rw [hasK] at h
  rw [setK, pla]
  split at h
  ·rename_i hx
   rw [if_pos hx, if_pos hx, setK_new s h]
   rfl
  ·rename_i hx
   rw [if_neg hx, if_neg hx, if_neg (by simpa using h)]
   rfl
def Rise (K : List La) : Prop := K.Pairwise fun a b => a.k < b.k
theorem klt_trans {a b c : List UInt8} (h : a < b) (k : b < c) : a < c := List.lt_trans h k
theorem klt_irrefl (a : List UInt8) : ¬ a < a := List.lt_irrefl a
theorem klt_tri : ∀ {a b : List UInt8}, ¬ a < b → a ≠ b → b < a
 | [], [], _, k => absurd rfl k
 | [], y :: b, h, _ => absurd (by simp) h
 | x :: a, [], _, _ => by simp
 | x :: a, y :: b, h, k => by
  rw [List.cons_lt_cons_iff] at h ⊢
  by_cases hxy : x = y
  ·subst hxy
   exact .inr ⟨rfl, klt_tri (fun h' => h (.inr ⟨rfl, h'⟩)) (fun e => k (by rw [e]))⟩
  ·refine .inl ?_
   have h1 : ¬ x < y := fun h' => h (.inl h')
   have h2 : x.toNat ≠ y.toNat := fun e => hxy (UInt8.toNat_inj.1 e)
   rw [UInt8.lt_iff_toNat_lt] at h1 ⊢
   omega
theorem has_mem : ∀ {K : List La} {to : List UInt8}, Rise K → (hasK K to = true ↔ ∃ y ∈ K, y.k = to)
 | [], to, _ => by simp [hasK]
 | x :: K, to, hr => by
  obtain ⟨h1, h2⟩ := List.pairwise_cons.1 hr
  rw [hasK]
  by_cases hx : x.k < to
  ·rw [if_pos hx, has_mem h2]
   constructor
   ·rintro ⟨y, hy, e⟩; exact ⟨y, by simp [hy], e⟩
   ·rintro ⟨y, hy, e⟩
    rcases List.mem_cons.1 hy with rfl | hy
    ·rw [e] at hx; exact absurd hx (klt_irrefl _)
    ·exact ⟨y, hy, e⟩
  ·rw [if_neg hx]
   constructor
   ·intro h; exact ⟨x, by simp, by simpa using h⟩
   ·rintro ⟨y, hy, e⟩
    rcases List.mem_cons.1 hy with rfl | hy
    ·simpa using e
    ·have := h1 y hy; rw [e] at this; exact absurd this hx
theorem ser_mem : ∀ {K : List La} {y : La}, Rise K → y ∈ K → ser K y.k = y.s
 | x :: K, y, hr, hy => by
  obtain ⟨h1, h2⟩ := List.pairwise_cons.1 hr
  rw [ser]
  rcases List.mem_cons.1 hy with rfl | hy
  ·rw [if_neg (klt_irrefl _), if_pos rfl]
  ·rw [if_pos (h1 y hy), ser_mem h2 hy]
theorem setK_mem : ∀ {K : List La} {to : List UInt8} {s : Nat} {y : La}, y ∈ setK K to s → y = ⟨to, s⟩ ∨ y ∈ K
 | [], to, s, y, h => by simp [setK] at h; exact .inl h
 | x :: K, to, s, y, h => by
  rw [setK] at h
  split at h
  ·rcases List.mem_cons.1 h with rfl | h
   ·exact .inr (by simp)
   ·rcases setK_mem h with h | h
    ·exact .inl h
    ·exact .inr (by simp [h])
  ·split at h
   ·rcases List.mem_cons.1 h with h | h
    ·exact .inl h
    ·exact .inr (by simp [h])
   ·rcases List.mem_cons.1 h with h | h
    ·exact .inl h
    ·exact .inr h
theorem Rise.setK : ∀ {K : List La} {to : List UInt8} (s : Nat), Rise K → Rise (setK K to s)
 | [], to, s, _ => by simp [YtngnenbidpojeaaGreatDoor.setK, Rise]
 | x :: K, to, s, hr => by
  obtain ⟨h1, h2⟩ := List.pairwise_cons.1 hr
  rw [YtngnenbidpojeaaGreatDoor.setK]
  split
  ·rename_i hx
   refine List.pairwise_cons.2 ⟨fun y hy => ?_, Rise.setK s h2⟩
   rcases setK_mem hy with rfl | hy
   ·exact hx
   ·exact h1 y hy
  ·rename_i hx
   split
   ·rename_i hk
    exact List.pairwise_cons.2 ⟨fun y hy => by have := h1 y hy; rw [hk] at this; exact this, h2⟩
   ·rename_i hk
    have hlt := klt_tri hx hk
    refine List.pairwise_cons.2 ⟨fun y hy => ?_, hr⟩
    rcases List.mem_cons.1 hy with rfl | hy
    ·exact hlt
    ·exact klt_trans hlt (h1 y hy)
theorem ser_set_same : ∀ (K : List La) (to : List UInt8) (s : Nat), ser (setK K to s) to = s ∧ hasK (setK K to s) to = true
 | [], to, s => by simp [setK, ser, hasK, klt_irrefl]
 | x :: K, to, s => by
  rw [setK]
  split
  ·rename_i hx
   rw [ser, if_pos hx, hasK, if_pos hx]
   exact ser_set_same K to s
  ·split <;> simp [ser, hasK, klt_irrefl]
theorem ser_set_other : ∀ {K : List La} {to to' : List UInt8} (s : Nat), Rise K → to' ≠ to → ser (setK K to s) to' = ser K to' ∧ hasK (setK K to s) to' = hasK K to'
 | [], to, to', s, _, hn => by
  simp only [setK, ser, hasK]
  by_cases h : to < to'
  ·simp [h]
  ·simp [h, Ne.symm hn]
 | x :: K, to, to', s, hr, hn => by
  obtain ⟨h1, h2⟩ := List.pairwise_cons.1 hr
  rw [setK]
  by_cases hx : x.k < to
  ·rw [if_pos hx, ser, ser, hasK, hasK]
   have := ser_set_other s h2 hn
   rw [this.1, this.2]
   exact ⟨rfl, rfl⟩
  ·rw [if_neg hx]
   by_cases hk : x.k = to
   ·rw [if_pos hk, ser, ser, hasK, hasK, hk]
    dsimp only
    rw [if_neg (Ne.symm hn), if_neg (Ne.symm hn)]
    exact ⟨rfl, rfl⟩
   ·rw [if_neg hk]
    by_cases ht : to < to'
    ·rw [ser, if_pos ht, hasK, if_pos ht]
     exact ⟨rfl, rfl⟩
    ·have hlt := klt_tri hx hk
     have hxn : ¬ x.k < to' := fun h => ht (klt_trans hlt h)
     have hxe : x.k ≠ to' := fun h => ht (by rw [← h]; exact hlt)
     rw [ser, if_neg ht, if_neg (Ne.symm hn), hasK, if_neg ht, ser, if_neg hxn, if_neg hxe, hasK, if_neg hxn]
     simp [hxe, Ne.symm hn]
theorem setK_length : ∀ (K : List La) (to : List UInt8) (s : Nat), (setK K to s).length = if hasK K to = true then K.length else K.length + 1
 | [], to, s => rfl
 | x :: K, to, s => by
  rw [setK, hasK]
  by_cases hx : x.k < to
  ·rw [if_pos hx, if_pos hx, List.length_cons, setK_length K to s]
   split <;> simp
  ·rw [if_neg hx, if_neg hx]
   by_cases hk : x.k = to
   ·simp [hk]
   ·simp [hk]
def ordR (k : List UInt8) : List Ot → Nat → Bool
 | [], _ => true
 | y :: t, s => if y.to = k then decide (s ≠ 0) && decide (y.x.ser = s) && ordR k t (s - 1) else ordR k t s
def ordO (K : List La) (L : List Ot) : Bool := K.all fun y => ordR y.k L.reverse y.s
structure GoodO (o : Ob) : Prop where
 own : isKey o.own = true
 kn : o.K.length ≤ 64
 ln : o.L.length ≤ 32
 key : ∀ y ∈ o.K, isKey y.k = true ∧ y.s ≠ 0 ∧ U64 y.s
 rise : Rise o.K
 lets : ∀ y ∈ o.L, y.x.ok ∧ y.x.formed = true ∧ y.x.fr = o.own ∧ hasK o.K y.to = true
 ord : ordO o.K o.L = true
def encK (K : List La) : List UInt8 := K.flatMap fun y => encTx y.k ++ enc y.s
def encY (L : List Ot) : List UInt8 := L.flatMap fun y => encTx y.to ++ encTx (encL y.x)
def encO (o : Ob) : List UInt8 := encTx o.own ++ (enc o.K.length ++ (encK o.K ++ (enc o.L.length ++ encY o.L)))
def rks : Nat → List La → List UInt8 → Option (List La × List UInt8)
 | 0, K, l => some (K, l)
 | n + 1, K, l => (txt l).bind fun a => (num a.2).bind fun b => if isKey a.1 = false ∨ b.1 = 0 ∨ ∃ y ∈ K.getLast?, ¬ y.k < a.1 then none else rks n (K ++ [⟨a.1, b.1⟩]) b.2
def rls (own : List UInt8) (K : List La) : Nat → List Ot → List UInt8 → Option (List Ot × List UInt8)
 | 0, L, l => some (L, l)
 | n + 1, L, l => (txt l).bind fun a => (txt a.2).bind fun b => (decL b.1).bind fun x => if x.fr ≠ own ∨ hasK K a.1 = false then none else rls own K n (L ++ [⟨a.1, x⟩]) b.2
def decO (l : List UInt8) : Option Ob :=
 (txt l).bind fun a => (num a.2).bind fun b => if isKey a.1 = false ∨ 64 < b.1 then none else
  (rks b.1 [] b.2).bind fun c => (num c.2).bind fun d => if 32 < d.1 then none else
   (rls a.1 c.1 d.1 [] d.2).bind fun e => if e.2 = [] ∧ ordO c.1 e.1 = true then some ⟨a.1, c.1, e.1⟩ else none
theorem rks_back (X : List La) : ∀ P r, Rise (P ++ X) → (∀ y ∈ X, isKey y.k = true ∧ y.s ≠ 0 ∧ U64 y.s) → rks X.length P (encK X ++ r) = some (P ++ X, r) := by
 induction X with
 | nil => intro P r _ _; simp [rks, encK]
 | cons x X ih =>
  intro P r hr h
  have hx := h x (by simp)
  have hk := (isKey_iff _).1 hx.1
  have e : encK (x :: X) ++ r = encTx x.k ++ (enc x.s ++ (encK X ++ r)) := by simp [encK]
  rw [List.length_cons, rks, e, txt_back x.k (by omega)]
  dsimp only [Option.bind_some]
  rw [num_back x.s hx.2.2]
  dsimp only [Option.bind_some]
  rw [if_neg, ih (P ++ [x]) r (by simpa using hr) (fun y hy => h y (by simp [hy]))]
  ·simp
  ·rintro (h1 | h1 | ⟨y, hy, h1⟩)
   ·rw [hx.1] at h1; cases h1
   ·exact hx.2.1 h1
   ·exact h1 ((List.pairwise_append.1 hr).2.2 y (List.mem_of_getLast? hy) x (by simp))
theorem rks_fwd (n : Nat) : ∀ P l K r, Rise P → rks n P l = some (K, r) → ∃ X, X.length = n ∧ K = P ++ X ∧ l = encK X ++ r ∧ Rise K ∧ ∀ y ∈ X, isKey y.k = true ∧ y.s ≠ 0 ∧ U64 y.s := by
 induction n with
 | zero =>
  intro P l K r hr h
  simp only [rks, Option.some.injEq, Prod.mk.injEq] at h
  obtain ⟨rfl, rfl⟩ := h
  exact ⟨[], rfl, by simp, by simp [encK], hr, by simp⟩
 | succ n ih =>
  intro P l K r hr h
  rw [rks] at h
  cases h1 : txt l with
  | none => rw [h1] at h; cases h
  | some a =>
   obtain ⟨k, l1⟩ := a
   rw [h1] at h
   dsimp only [Option.bind_some] at h
   cases h2 : num l1 with
   | none => rw [h2] at h; cases h
   | some b =>
    obtain ⟨s, l2⟩ := b
    rw [h2] at h
    dsimp only [Option.bind_some] at h
    split at h
    ·cases h
    ·rename_i hno
     have hk : isKey k = true := by
      cases hh : isKey k with
      | true => rfl
      | false => exact absurd (.inl hh) hno
     have hlast : ∀ y ∈ P, y.k < k := fun y hy => by
      have hne : P ≠ [] := fun e => by rw [e] at hy; simp at hy
      have hl : P.getLast? = some (P.getLast hne) := List.getLast?_eq_some_getLast hne
      have h3 : (P.getLast hne).k < k := Classical.byContradiction fun h3 => hno (.inr (.inr ⟨_, hl, h3⟩))
      have e := List.dropLast_concat_getLast hne
      rw [← e] at hy hr
      rcases List.mem_append.1 hy with hy | hy
      ·exact klt_trans ((List.pairwise_append.1 hr).2.2 y hy _ (by simp)) h3
      ·simp at hy; rw [hy]; exact h3
     have hr2 : Rise (P ++ [⟨k, s⟩]) := List.pairwise_append.2 ⟨hr, by simp, fun a ha b hb => by simp at hb; subst hb; exact hlast a ha⟩
     obtain ⟨X, h4, h5, h6, h7, h8⟩ := ih (P ++ [⟨k, s⟩]) l2 K r hr2 h
     refine ⟨⟨k, s⟩ :: X, by simp [h4], by rw [h5]; simp, ?_, h7, fun y hy => ?_⟩
     ·rw [txt_fwd h1, num_fwd h2, h6]; simp [encK]
     ·rcases List.mem_cons.1 hy with rfl | hy
      ·exact ⟨hk, fun e => hno (.inr (.inl e)), num_lt h2⟩
      ·exact h8 y hy
theorem encL_lt {x : Lt} (h : x.formed = true) : (encL x).length < 18446744073709551616 := by
 have h1 := encL_length x
 have h2 := formed_le h
 omega
theorem rls_back (own : List UInt8) (K : List La) (hK : ∀ y ∈ K, isKey y.k = true) (hr : Rise K) (X : List Ot) : ∀ P r, (∀ y ∈ X, y.x.ok ∧ y.x.formed = true ∧ y.x.fr = own ∧ hasK K y.to = true) → rls own K X.length P (encY X ++ r) = some (P ++ X, r) := by
 induction X with
 | nil => intro P r _; simp [rls, encY]
 | cons x X ih =>
  intro P r h
  have hx := h x (by simp)
  have hto : x.to.length < 18446744073709551616 := by
   obtain ⟨y, hy, e⟩ := (has_mem hr).1 hx.2.2.2
   have := (isKey_iff _).1 (hK y hy)
   rw [← e]; omega
  have e : encY (x :: X) ++ r = encTx x.to ++ (encTx (encL x.x) ++ (encY X ++ r)) := by simp [encY]
  rw [List.length_cons, rls, e, txt_back x.to hto]
  dsimp only [Option.bind_some]
  rw [txt_back _ (encL_lt hx.2.1)]
  dsimp only [Option.bind_some]
  rw [decL_enc hx.1 hx.2.1]
  dsimp only [Option.bind_some]
  rw [if_neg, ih (P ++ [x]) r (fun y hy => h y (by simp [hy]))]
  ·simp
  ·rintro (h1 | h1)
   ·exact h1 hx.2.2.1
   ·rw [hx.2.2.2] at h1; cases h1
theorem decO_back {o : Ob} (h : GoodO o) : decO (encO o) = some o := by
 obtain ⟨own, K, L⟩ := o
 have hk := (isKey_iff _).1 h.own
 have h1 := h.kn
 have h2 := h.ln
 dsimp only at hk h1 h2
 have hr1 := rks_back K [] (enc L.length ++ encY L) (by simpa using h.rise) h.key
 have hr2 := rls_back own K (fun y hy => (h.key y hy).1) h.rise L [] [] h.lets
 rw [List.append_nil, List.nil_append] at hr2
 rw [List.nil_append] at hr1
 unfold decO encO
 dsimp only
 rw [txt_back own (by omega)]
 dsimp only [Option.bind_some]
 rw [num_back K.length (by unfold U64; omega)]
 dsimp only [Option.bind_some]
 rw [if_neg (by rintro (e | e); rw [h.own] at e; cases e; omega), hr1]
 dsimp only [Option.bind_some]
 rw [num_back L.length (by unfold U64; omega)]
 dsimp only [Option.bind_some]
 rw [if_neg (by omega), hr2]
 dsimp only [Option.bind_some]
 rw [if_pos ⟨rfl, h.ord⟩]
theorem encK_length {K : List La} (h : ∀ y ∈ K, isKey y.k = true) : (encK K).length ≤ 58 * K.length := by
 induction K with
 | nil => simp [encK]
 | cons x K ih =>
  have h1 := (isKey_iff _).1 (h x (by simp))
  have h2 := enc_length x.k.length
  have h3 := enc_length x.s
  have h4 := ih (fun y hy => h y (by simp [hy]))
  have e : encK (x :: K) = encTx x.k ++ enc x.s ++ encK K := by simp [encK]
  rw [e, List.length_append, List.length_append, encTx, List.length_append, List.length_cons]
  omega
theorem encY_length {L : List Ot} (h : ∀ y ∈ L, y.x.formed = true ∧ y.to.length ≤ 40) : (encY L).length ≤ 200 * L.length := by
 induction L with
 | nil => simp [encY]
 | cons x L ih =>
  have h1 := h x (by simp)
  have h2 := formed_le h1.1
  have h3 := encL_length x.x
  have h4 := enc_length x.to.length
  have h5 := enc_length (encL x.x).length
  have h6 := ih (fun y hy => h y (by simp [hy]))
  have e : encY (x :: L) = encTx x.to ++ encTx (encL x.x) ++ encY L := by simp [encY]
  rw [e, List.length_append, List.length_append, encTx, encTx, List.length_append, List.length_append, List.length_cons]
  omega
def sendO (o : Ob) (to : List UInt8) (kind : Int) (args : List Int) : Ob :=
 ⟨o.own, setK o.K to (ser o.K to + 1), o.L ++ [⟨to, ⟨o.own, ser o.K to + 1, kind, args⟩⟩]⟩
theorem GoodO.new {own : List UInt8} (h : isKey own = true) : GoodO ⟨own, [], []⟩ := ⟨h, by simp, by simp, by simp, by simp [Rise], by simp, rfl⟩
theorem ordR_none (k : List UInt8) : ∀ (A : List Ot) (s : Nat), (∀ y ∈ A, y.to ≠ k) → ordR k A s = true
 | [], s, _ => rfl
 | x :: A, s, h => by
  rw [ordR, if_neg (h x (by simp))]
  exact ordR_none k A s fun y hy => h y (by simp [hy])
theorem GoodO.send {o : Ob} (h : GoodO o) {to : List UInt8} {kind : Int} {args : List Int} (hto : isKey to = true) (hk : I64 kind) (ha : ∀ z ∈ args, I64 z) (h4 : args.length ≤ 4) (h32 : o.L.length < 32) (h64 : hasK o.K to = true ∨ o.K.length < 64) (hs : U64 (ser o.K to + 1)) : GoodO (sendO o to kind args) := by
 obtain ⟨own, K, L⟩ := o
 dsimp only at *
 have hown := (isKey_iff _).1 h.own
 have hrise := Rise.setK (to := to) (ser K to + 1) h.rise
 refine ⟨h.own, ?_, ?_, fun y hy => ?_, hrise, fun y hy => ?_, ?_⟩
 ·show (setK K to (ser K to + 1)).length ≤ 64
  have := h.kn
  dsimp only at this
  rw [setK_length]
  split
  ·exact this
  ·rename_i hno
   rcases h64 with h | h
   ·exact absurd h hno
   ·omega
 ·show (L ++ [_]).length ≤ 32
  simp
  omega
 ·rcases setK_mem hy with rfl | hy
  ·exact ⟨hto, by simp, hs⟩
  ·exact h.key y hy
 ·show y.x.ok ∧ y.x.formed = true ∧ y.x.fr = own ∧ hasK (setK K to (ser K to + 1)) y.to = true
  rcases List.mem_append.1 hy with hy | hy
  ·obtain ⟨i1, i2, i3, i4⟩ := h.lets y hy
   refine ⟨i1, i2, i3, ?_⟩
   by_cases e : y.to = to
   ·rw [e]; exact (ser_set_same K to _).2
   ·rw [(ser_set_other _ h.rise e).2]; exact i4
  ·simp at hy
   subst hy
   refine ⟨⟨hs, hk, ha⟩, ?_, rfl, (ser_set_same K to _).2⟩
   simp [Lt.formed, hown.2, h4]
 ·show ordO (setK K to (ser K to + 1)) (L ++ [⟨to, ⟨own, ser K to + 1, kind, args⟩⟩]) = true
  have hord := h.ord
  unfold ordO at hord ⊢
  rw [List.all_eq_true] at hord ⊢
  intro y hy
  rw [List.reverse_append]
  show ordR y.k (⟨to, ⟨own, ser K to + 1, kind, args⟩⟩ :: L.reverse) y.s = true
  rw [ordR]
  dsimp only
  by_cases e : to = y.k
  ·rw [if_pos e]
   have hys : y.s = ser K to + 1 := by
    have := ser_mem hrise hy
    rw [← e, (ser_set_same K to _).1] at this
    exact this.symm
   rw [hys]
   have hrest : ordR y.k L.reverse (ser K to) = true := by
    cases hh : hasK K to with
    | true =>
     obtain ⟨z, hz, hzk⟩ := (has_mem h.rise).1 hh
     have := hord z hz
     rw [← ser_mem h.rise hz, hzk] at this
     rw [← e]
     exact this
    | false =>
     refine ordR_none _ _ _ fun z hz e2 => ?_
     have := (h.lets z (by simpa using hz)).2.2.2
     rw [e2, ← e, hh] at this
     cases this
   simp [hrest]
  ·rw [if_neg e]
   rcases setK_mem hy with rfl | hy
   ·exact absurd rfl e
   ·exact hord y hy
end Go.Proofs.YtngnenbidpojeaaGreatDoor
namespace Go.Proofs.YtngnenbidpojeaaGreatDoor
open Go.RowKit
set_option linter.unusedVariables false
theorem rt28 : RowT 26 81 4 56 (.agg #[.string ⟨#[]⟩, .int .u64 0, .int .i64 0, .slice none 0 0]) := ⟨Tryz.underlying26, by kernel_rfl, rfl, by omega, by omega⟩
end Go.Proofs.YtngnenbidpojeaaGreatDoor
