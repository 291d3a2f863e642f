import Derived.Deep.QuietTactic
import Derived.BigQuiet
import Derived.Deep.RegionHeld3
import Derived.Laws.Rows
import Derived.Shelf.Pu.Clone
import Derived.Ground.MpProg
import Derived.Test.YtngnenbidpojeaaGreatDoorT02
/-
 Letters: what a letter is, its bytes, the letter that bytes begin with; and letters in memory.
-/
namespace Go.Proofs.YtngnenbidpojeaaGreatDoor
set_option maxRecDepth 100000
open Go.RowKit
set_option linter.unusedVariables false
theorem Kept.drewN {S : List Nat} {a w : World} (h : Kept S a w) (n : Nat) : Kept S a (w.drewN n) := ⟨h.os, h.tape, h.output, h.size, h.block⟩
theorem Hid.mk {p : Prop} (h : p) : Hid p := h
abbrev Sv (l : List UInt8) : Value := .string ⟨l.toArray⟩
def I64 (z : Int) : Prop := -9223372036854775808 ≤ z ∧ z ≤ 9223372036854775807
structure Lt where
 fr : List UInt8
 ser : Nat
 kind : Int
 args : List Int
instance : Inhabited Lt := ⟨⟨[], 0, 0, []⟩⟩
structure Lt.ok (x : Lt) : Prop where
 ser : x.ser < 18446744073709551616
 kind : I64 x.kind
 args : ∀ z ∈ x.args, I64 z
def Lt.formed (x : Lt) : Bool := decide (x.fr.length ≤ 40) && decide (x.args.length ≤ 4)
def encJ (l : List Int) : List UInt8 := l.flatMap fun z => enc (fold z)
def encL (x : Lt) : List UInt8 := enc x.fr.length ++ x.fr ++ enc x.ser ++ enc (fold x.kind) ++ enc x.args.length ++ encJ x.args
theorem encJ_append (a b : List Int) : encJ (a ++ b) = encJ a ++ encJ b := by simp [encJ]
theorem encJ_length (l : List Int) : l.length ≤ (encJ l).length ∧ (encJ l).length ≤ 9 * l.length := by
 induction l with
 | nil => simp [encJ]
 | cons z l ih =>
  have h := enc_length (fold z)
  have e : encJ (z :: l) = enc (fold z) ++ encJ l := rfl
  rw [e, List.length_append, List.length_cons]
  omega
theorem encL_length (x : Lt) : (encL x).length ≤ x.fr.length + 9 * x.args.length + 36 := by
 have h1 := enc_length x.fr.length
 have h2 := enc_length x.ser
 have h3 := enc_length (fold x.kind)
 have h4 := enc_length x.args.length
 have h5 := encJ_length x.args
 simp only [encL, List.length_append]
 omega
def rints : Nat → List UInt8 → Bool → List Int × List UInt8 × Bool
 | 0, l, bad => ([], l, bad)
 | n + 1, l, bad =>
  let r := rints n (rnum l bad).2.1 (rnum l bad).2.2
  (unfold (rnum l bad).1 :: r.1, r.2.1, r.2.2)
structure Hd where
 fr : List UInt8
 ser : Nat
 kind : Int
 n : Nat
 rest : List UInt8
 bad : Bool
def rhead (l : List UInt8) (bad : Bool) : Hd :=
 let t := rtext l bad
 let s := rnum t.2.1 t.2.2
 let k := rnum s.2.1 s.2.2
 let n := rnum k.2.1 k.2.2
 ⟨t.1, s.1, unfold k.1, n.1, n.2.1, n.2.2⟩
def rlet (l : List UInt8) (bad : Bool) : Option Lt × List UInt8 × Bool :=
 let h := rhead l bad
 if 4 < h.n then (none, h.rest, h.bad)
 else
  let r := rints h.n h.rest h.bad
  if r.2.2 = true ∨ 40 < h.fr.length then (none, r.2.1, r.2.2) else (some ⟨h.fr, h.ser, h.kind, r.1⟩, r.2.1, r.2.2)
theorem rints_length (n : Nat) : ∀ l bad, (rints n l bad).1.length = n := by
 induction n with
 | zero => intro l bad; rfl
 | succ n ih => intro l bad; simp [rints, ih]
theorem rints_snoc (n : Nat) : ∀ l bad, rints (n + 1) l bad = ((rints n l bad).1 ++ [unfold (rnum (rints n l bad).2.1 (rints n l bad).2.2).1], (rnum (rints n l bad).2.1 (rints n l bad).2.2).2.1, (rnum (rints n l bad).2.1 (rints n l bad).2.2).2.2) := by
 induction n with
 | zero => intro l bad; rfl
 | succ n ih =>
  intro l bad
  have e : rints (n + 1 + 1) l bad = (unfold (rnum l bad).1 :: (rints (n + 1) (rnum l bad).2.1 (rnum l bad).2.2).1, (rints (n + 1) (rnum l bad).2.1 (rnum l bad).2.2).2.1, (rints (n + 1) (rnum l bad).2.1 (rnum l bad).2.2).2.2) := rfl
  have e2 : rints (n + 1) l bad = (unfold (rnum l bad).1 :: (rints n (rnum l bad).2.1 (rnum l bad).2.2).1, (rints n (rnum l bad).2.1 (rnum l bad).2.2).2.1, (rints n (rnum l bad).2.1 (rnum l bad).2.2).2.2) := rfl
  rw [e, ih, e2]
  rfl
theorem unfold_I64 (n : Nat) (h : n < 18446744073709551616) : I64 (unfold n) := by
 unfold unfold I64; split <;> omega
theorem rints_I64 (n : Nat) : ∀ l bad, ∀ z ∈ (rints n l bad).1, I64 z := by
 induction n with
 | zero => intro l bad z hz; simp [rints] at hz
 | succ n ih =>
  intro l bad z hz
  simp only [rints, List.mem_cons] at hz
  rcases hz with rfl | hz
  ·exact unfold_I64 _ (rnum_lt _ _)
  ·exact ih _ _ z hz
theorem rhead_lt (l : List UInt8) (bad : Bool) : (rhead l bad).ser < 18446744073709551616 ∧ I64 (rhead l bad).kind ∧ (rhead l bad).n < 18446744073709551616 :=
 ⟨rnum_lt _ _, unfold_I64 _ (rnum_lt _ _), rnum_lt _ _⟩
theorem rlet_ok {l : List UInt8} {bad : Bool} {x : Lt} (h : (rlet l bad).1 = some x) : x.ok ∧ x.formed = true := by
 unfold rlet at h
 obtain ⟨h1, h2, h3⟩ := rhead_lt l bad
 revert h
 generalize rhead l bad = d at h1 h2 h3
 intro h
 dsimp only at h
 split at h
 ·cases h
 ·rename_i h4
  split at h
  ·cases h
  ·rename_i h5
   cases h
   refine ⟨⟨h1, h2, rints_I64 _ _ _⟩, ?_⟩
   have := rints_length d.n d.rest d.bad
   have h6 : d.fr.length ≤ 40 := by omega
   simp only [Lt.formed, this, h6, decide_true, Bool.true_and, decide_eq_true_eq]
   omega
theorem rints_back (a : List Int) : ∀ rest, (∀ z ∈ a, I64 z) → rints a.length (encJ a ++ rest) false = (a, rest, false) := by
 induction a with
 | nil => intro rest _; rfl
 | cons z a ih =>
  intro rest h
  have e : encJ (z :: a) = enc (fold z) ++ encJ a := rfl
  have hz := h z (by simp)
  have h1 := rnum_back (fold z) (fold_lt z hz.1 hz.2) (encJ a ++ rest)
  rw [List.length_cons, rints, e, List.append_assoc, h1]
  dsimp only
  rw [ih rest (fun y hy => h y (by simp [hy]))]
  simp [unfold_fold z]
theorem rlet_back (x : Lt) (hx : x.ok) (hf : x.formed = true) (rest : List UInt8) : rlet (encL x ++ rest) false = (some x, rest, false) := by
 have hf' : x.fr.length ≤ 40 ∧ x.args.length ≤ 4 := by simpa [Lt.formed] using hf
 have e : encL x ++ rest = enc x.fr.length ++ (x.fr ++ (enc x.ser ++ (enc (fold x.kind) ++ (enc x.args.length ++ (encJ x.args ++ rest))))) := by simp only [encL, List.append_assoc]
 have h1 := rtext_back x.fr (by omega) (enc x.ser ++ (enc (fold x.kind) ++ (enc x.args.length ++ (encJ x.args ++ rest))))
 have h2 := rnum_back x.ser hx.ser (enc (fold x.kind) ++ (enc x.args.length ++ (encJ x.args ++ rest)))
 have h3 := rnum_back (fold x.kind) (fold_lt _ hx.kind.1 hx.kind.2) (enc x.args.length ++ (encJ x.args ++ rest))
 have h4 := rnum_back x.args.length (by omega) (encJ x.args ++ rest)
 have h5 := rints_back x.args rest hx.args
 have h6 := unfold_fold x.kind
 have hh : rhead (encL x ++ rest) false = ⟨x.fr, x.ser, x.kind, x.args.length, encJ x.args ++ rest, false⟩ := by
  unfold rhead
  rw [e, h1]
  dsimp only
  rw [h2]
  dsimp only
  rw [h3]
  dsimp only
  rw [h4, h6]
 unfold rlet
 rw [hh]
 dsimp only
 rw [if_neg (by omega), h5]
 dsimp only
 rw [if_neg (by simp; omega)]
theorem rnum_fwd {l : List UInt8} {bad : Bool} (h : (rnum l bad).2.2 = false) : bad = false ∧ l = enc (rnum l bad).1 ++ (rnum l bad).2.1 := by
 unfold rnum at h ⊢
 split at h
 ·cases h
 ·rename_i hk
  rw [if_neg hk]
  exact ⟨h, by rw [enc_dec l hk, List.take_append_drop]⟩
theorem rtext_fwd {l : List UInt8} {bad : Bool} (h : (rtext l bad).2.2 = false) : bad = false ∧ l = enc (rtext l bad).1.length ++ ((rtext l bad).1 ++ (rtext l bad).2.1) := by
 unfold rtext at h ⊢
 split at h
 ·cases h
 ·rename_i hk
  rw [if_neg hk]
  obtain ⟨h1, h2⟩ := rnum_fwd (l := l) (bad := bad) h
  refine ⟨h1, ?_⟩
  dsimp only
  rw [List.take_append_drop, List.length_take, Nat.min_eq_left (by omega)]
  exact h2
def CJ (l : List Int) : List (List Value) := l.map fun z => [.int .i64 z]
theorem CJ_length (l : List Int) : (CJ l).length = l.length := by simp [CJ]
theorem CJ_wide (l : List Int) : Wide 1 (CJ l) := fun r hr => by
 obtain ⟨z, _, rfl⟩ := List.mem_map.1 hr
 exact ⟨rfl, fun u hu => by simp at hu; subst hu; rfl⟩
def ReadsJ (w : World) (v : Value) (l : List Int) : Prop := ReadsR 1 w v (CJ l)
theorem ReadsJ.nil (w : World) : ReadsJ w (.slice none 0 0) [] := ReadsR.nil 1 w
theorem ReadsJ.kept {S : List Nat} {w w' : World} {v : Value} {l : List Int} (h : ReadsJ w v l) (k : Kept S w w') (hn : ∀ g, v.ownBlock = some g → g ∉ S) : ReadsJ w' v l := ReadsR.kept h k hn
theorem ReadsJ.form {w : World} {v : Value} {l : List Int} (h : ReadsJ w v l) : ∃ a c, v = .slice a l.length c ∧ l.length ≤ c ∧ c ≤ 9223372036854775807 := by
 have := ReadsR.form h
 rwa [CJ_length] at this
theorem ReadsJ.bound {w : World} {a : Option Addr} {n c : Nat} {l : List Int} (h : ReadsJ w (.slice a n c) l) : n = l.length ∧ n ≤ c ∧ c ≤ 9223372036854775807 := by
 obtain ⟨a', c', e, h1, h2⟩ := h.form
 injection e with _ e2 e3
 subst e2 e3
 exact ⟨rfl, h1, h2⟩
theorem ReadsJ.at {w : World} {a : Option Addr} {n c : Nat} {l : List Int} (h : ReadsJ w (.slice a n c) l) {j : Nat} {z : Int} (hz : l[j]? = some z) : ∃ b o, a = some ⟨b, o, none⟩ ∧ w.cell? ⟨b, o + j, none⟩ = some (.int .i64 z) := by
 obtain ⟨b, o, c', e, hc⟩ := ReadsR.at h j [.int .i64 z] (by simp [CJ, hz])
 injection e with e _ _
 have h0 := hc 0 _ rfl
 rw [Nat.add_zero, Nat.mul_one] at h0
 exact ⟨b, o, e, h0⟩
theorem ReadsJ.lt {w : World} {v : Value} {l : List Int} (h : ReadsJ w v l) (hl : l ≠ []) : ∃ g, v.ownBlock = some g ∧ g < w.heap.size := ReadsR.lt h (CJ_wide l) (by omega) (by intro e; apply hl; simpa [CJ] using e)
def OwnsJ (w : World) (v : Value) (l : List Int) : Prop := OwnsR 2 1 w v (CJ l)
theorem OwnsJ.nil (w : World) : OwnsJ w (.slice none 0 0) [] := OwnsR.nil 2 1 w
theorem OwnsJ.reads {w : World} {v : Value} {l : List Int} (h : OwnsJ w v l) : ReadsJ w v l := OwnsR.reads h (CJ_wide l)
theorem OwnsJ.kept {S : List Nat} {w w' : World} {v : Value} {l : List Int} (h : OwnsJ w v l) (k : Kept S w w') (hn : ∀ g, v.ownBlock = some g → g ∉ S) : OwnsJ w' v l := OwnsR.kept h k hn
theorem rt23 : RowT 79 2 1 8 (.int .i64 0) := ⟨Tryz.underlying79, by kernel_rfl, rfl, by omega, by omega⟩
structure Lq where
 x : Lt
 ad : Option Addr
 cap : Nat
instance : Inhabited Lq := ⟨⟨default, none, 0⟩⟩
abbrev Lq.sl (q : Lq) : Value := .slice q.ad q.x.args.length q.cap
def cellsQ (q : Lq) : List Value := [Sv q.x.fr, .int .u64 (q.x.ser : Int), .int .i64 q.x.kind, q.sl]
abbrev Lv (x : Lt) (a : Option Addr) (c : Nat) : Value := .agg #[Sv x.fr, .int .u64 (x.ser : Int), .int .i64 x.kind, .slice a x.args.length c]
def CQ (l : List Lq) : List (List Value) := l.map cellsQ
theorem CQ_length (l : List Lq) : (CQ l).length = l.length := by simp [CQ]
theorem CQ_append (a b : List Lq) : CQ (a ++ b) = CQ a ++ CQ b := by simp [CQ]
theorem CQ_wide (l : List Lq) : Wide 4 (CQ l) := fun r hr => by
 obtain ⟨x, _, rfl⟩ := List.mem_map.1 hr
 refine ⟨rfl, fun v hv => ?_⟩
 simp [cellsQ] at hv
 rcases hv with rfl | rfl | rfl | rfl <;> rfl
def RowQ (w : World) (v : Value) (l : List Lq) : Prop := ReadsR 4 w v (CQ l)
def ValsQ (w : World) (l : List Lq) : Prop := ∀ q ∈ l, ReadsJ w q.sl q.x.args
theorem RowQ.kept {S : List Nat} {w w' : World} {v : Value} {l : List Lq} (h : RowQ w v l) (k : Kept S w w') (hn : ∀ g, v.ownBlock = some g → g ∉ S) : RowQ w' v l := ReadsR.kept h k hn
theorem ValsQ.kept {S : List Nat} {w w' : World} {l : List Lq} (h : ValsQ w l) (k : Kept S w w') (hn : ∀ q ∈ l, ∀ g, q.sl.ownBlock = some g → g ∉ S) : ValsQ w' l := fun q hq => (h q hq).kept k (hn q hq)
theorem ValsQ.kept0 {w w' : World} {l : List Lq} (h : ValsQ w l) (k : Kept [] w w') : ValsQ w' l := h.kept k (by simp)
theorem RowQ.form {w : World} {v : Value} {l : List Lq} (h : RowQ w v l) : ∃ a c, v = .slice a l.length c ∧ l.length ≤ c ∧ c ≤ 9223372036854775807 := by
 have := ReadsR.form h
 rwa [CQ_length] at this
theorem RowQ.bound {w : World} {a : Option Addr} {n c : Nat} {l : List Lq} (h : RowQ w (.slice a n c) l) : n = l.length ∧ n ≤ c ∧ c ≤ 9223372036854775807 := by
 obtain ⟨a', c', e, h1, h2⟩ := h.form
 injection e with _ e2 e3
 subst e2 e3
 exact ⟨rfl, h1, h2⟩
theorem RowQ.at {w : World} {a : Option Addr} {n c : Nat} {l : List Lq} (h : RowQ w (.slice a n c) l) {j : Nat} {q : Lq} (hq : l[j]? = some q) : ∃ b o, a = some ⟨b, o, none⟩ ∧ w.cell? ⟨b, o + j * 4, none⟩ = some (Sv q.x.fr) ∧ w.cell? ⟨b, o + j * 4 + 1, none⟩ = some (.int .u64 (q.x.ser : Int)) ∧ w.cell? ⟨b, o + j * 4 + 2, none⟩ = some (.int .i64 q.x.kind) ∧ w.cell? ⟨b, o + j * 4 + 3, none⟩ = some q.sl := by
 obtain ⟨b, o, c', e, hc⟩ := ReadsR.at h j (cellsQ q) (by simp [CQ, hq])
 injection e with e _ _
 have h0 := hc 0 _ rfl
 have h1 := hc 1 _ rfl
 have h2 := hc 2 _ rfl
 have h3 := hc 3 _ rfl
 rw [Nat.add_zero] at h0
 exact ⟨b, o, e, h0, h1, h2, h3⟩
section
variable {w : World}
theorem Lt.formed_eq (x : Lt) (b1 b2 : Bool) (h1 : (decide ((x.fr.length : Int) ≤ 40)) = b1) (h2 : decide ((x.args.length : Int) ≤ 4) = b2) : x.formed = (b1 && b2) := by
 subst h1 h2
 unfold Lt.formed
 congr 1 <;> (rw [decide_eq_decide]; omega)
set_option maxHeartbeats 1000000 in
theorem formed13 (x : Lt) (a : Option Addr) (c : Nat) : Calls Tryz.prog 74 #[Lv x a c] w fun e w' => e = .returned (.bool x.formed) ∧ Kept [] w w' := by
 have HF := Hid.mk x.formed_eq
 generalize x.formed = fb at HF
 go_enter Tryz.func74, Tryz.ntmps74
 go_wp2_with fail
 ·go_ret
  refine ⟨?_, (Kept.refl [] w).alloc _⟩
  rw [HF.out _ _ rfl rfl]
  have h : ((x.fr.length : Int) ≤ 40) := by omega
  simp only [h, decide_true, Bool.true_and]
  rfl
 ·go_ret
  refine ⟨?_, (Kept.refl [] w).alloc _⟩
  rw [HF.out _ _ rfl rfl]
  have h : ¬ ((x.fr.length : Int) ≤ 40) := by omega
  simp only [h, decide_false, Bool.false_and]
  rfl
set_option maxHeartbeats 1000000 in
theorem formed14 (x : Lt) (a : Option Addr) (c : Nat) : Calls Tryz.prog 78 #[Lv x a c] w fun e w' => e = .returned (.bool x.formed) ∧ Kept [] w w' := by
 have HF := Hid.mk x.formed_eq
 generalize x.formed = fb at HF
 go_enter Tryz.func78, Tryz.ntmps78
 go_wp2_with fail
 ·go_ret
  refine ⟨?_, (Kept.refl [] w).alloc _⟩
  rw [HF.out _ _ rfl rfl]
  have h : ((x.fr.length : Int) ≤ 40) := by omega
  simp only [h, decide_true, Bool.true_and]
  rfl
 ·go_ret
  refine ⟨?_, (Kept.refl [] w).alloc _⟩
  rw [HF.out _ _ rfl rfl]
  have h : ¬ ((x.fr.length : Int) ≤ 40) := by omega
  simp only [h, decide_false, Bool.false_and]
  rfl
set_option maxRecDepth 100000 in
set_option maxHeartbeats 1000000 in
theorem sameInts31 {a a' : Option Addr} {c c' n n' : Nat} {l m : List Int} (hr : ReadsJ w (.slice a n c) l) (hr' : ReadsJ w (.slice a' n' c') m) (hn : Hid (n = l.length)) (hn' : Hid (n' = m.length)) (hl : n ≤ 9223372036854775806) : Calls Tryz.prog 134 #[.slice a n c, .slice a' n' c'] w fun e w' => e = .returned (.bool (decide (l = m))) ∧ Kept [] w w' := by
 by_cases hlen : n = n'
 ·subst hlen
  obtain ⟨-, hc1, hc2⟩ := hr.bound
  obtain ⟨-, hc3, hc4⟩ := hr'.bound
  have HR := Hid.mk hr
  have HR' := Hid.mk hr'
  clear hr hr'
  have HL : Hid (l.length = m.length) := hn.out.symm.trans hn'.out
  generalize hD : decide (l = m) = D
  have HD := Hid.mk hD
  clear hD
  go_enter Tryz.func134, Tryz.ntmps134
  go_wp2_with fail
  go_loopw [13] (fun i wr => ∃ j : Nat, i = .int .i64 (j : Int) ∧ j ≤ n ∧ Hid (l.take j = m.take j) ∧ Kept [] w wr) (fun i _ => n - (intOf i).toNat)
  case atStart => exact ⟨0, rfl, by omega, Hid.mk rfl, Kept.refl [] w⟩
  case round =>
   obtain ⟨j, rfl, hj, ht, kk⟩ := hrel
   by_cases hlt : j < n
   ·obtain ⟨x, hx⟩ : ∃ x, l[j]? = some x := ⟨_, List.getElem?_eq_getElem (by have := hn.out; omega)⟩
    obtain ⟨y, hy⟩ : ∃ y, m[j]? = some y := ⟨_, List.getElem?_eq_getElem (by have := hn'.out; omega)⟩
    obtain ⟨b, o, rfl, hcell⟩ := (HR.out.kept kk (by simp)).at hx
    obtain ⟨b', o', rfl, hcell'⟩ := (HR'.out.kept kk (by simp)).at hy
    have HK := Hid.mk kk
    have HX := Hid.mk hx
    have HY := Hid.mk hy
    clear hx hy kk
    have hjI : (j : Int) < (n : Int) := by omega
    by_cases hxy : x = y
    ·subst hxy
     have hne : (x != x) = false := by simp
     go_wp2_with fail
     go_quiet (fail)
     go_wp2
     go_roundw
     case rel => exact ⟨j + 1, by go_num, by omega, by show _ = _; rw [List.take_add_one, List.take_add_one, ht.out, HX.out, HY.out], HK.out.drewN _⟩
     case measure => simp [intOf]; omega
    ·have hne : (x != y) = true := by simp [hxy]
     go_wp2_with fail
     go_quiet (fail)
     go_wp2
     go_ret
     refine ⟨?_, HK.out.drewN _⟩
     have : D = false := by
      rw [← HD.out]
      simp only [decide_eq_false_iff_not]
      intro e
      have := HX.out.symm.trans ((congrArg (fun q : List Int => q[j]?) e).trans HY.out)
      simp at this
      exact hxy this
     rw [this]
     rfl
   ·obtain rfl : j = n := by omega
    go_wp2
    go_ret
    refine ⟨?_, kk⟩
    have : D = true := by
     rw [← HD.out]
     simp only [decide_eq_true_eq]
     have := ht.out
     rwa [List.take_of_length_le (by rw [← hn.out]; exact Nat.le_refl _), List.take_of_length_le (by rw [← hn'.out]; exact Nat.le_refl _)] at this
    rw [this]
    rfl
 ·generalize hD : decide (l = m) = D
  have : D = false := by rw [← hD]; simp; intro e; subst e; exact hlen (hn.out.trans hn'.out.symm)
  subst this
  have h1 : ((n : Int) != (n' : Int)) = true := by simp; omega
  clear hD hr hr'
  go_enter Tryz.func134, Tryz.ntmps134
  go_wp2_with fail
  go_ret
  exact ⟨rfl, Kept.refl [] w⟩
end
section
variable {w : World}
def sameL (x y : Lt) : Bool := decide (x.fr = y.fr ∧ x.ser = y.ser ∧ x.kind = y.kind ∧ x.args = y.args)
theorem sameL_iff (x y : Lt) : sameL x y = true ↔ x = y := by
 cases x; cases y; simp [sameL]
theorem sameL_refl (x : Lt) : sameL x x = true := (sameL_iff x x).2 rfl
set_option maxRecDepth 100000 in
set_option maxHeartbeats 1000000 in
theorem same16 (x y : Lt) (a b : Option Addr) (c d : Nat) (hx : ReadsJ w (.slice a x.args.length c) x.args) (hy : ReadsJ w (.slice b y.args.length d) y.args) (hl : x.args.length ≤ 9223372036854775806) :
  Calls Tryz.prog 103 #[Lv x a c, Lv y b d] w fun e w' => e = .returned (.bool (sameL x y)) ∧ Kept [] w w' := by
 generalize hD : sameL x y = D
 have HD := Hid.mk hD
 clear hD
 have k2 : Kept [] w ((w.alloc (Obj.cells #[Sv x.fr, Value.int IntKind.u64 ↑x.ser, Value.int IntKind.i64 x.kind, Value.slice a x.args.length c] 81)).alloc (Obj.cells #[Sv y.fr, Value.int IntKind.u64 ↑y.ser, Value.int IntKind.i64 y.kind, Value.slice b y.args.length d] 81)) := ((Kept.refl [] w).alloc _).alloc _
 by_cases h1 : x.fr = y.fr
 ·have g1 : (x.fr == y.fr) = true := by simp [h1]
  by_cases h2 : x.ser = y.ser
  ·have g2 : ((x.ser : Int) == (y.ser : Int)) = true := by simp [h2]
   by_cases h3 : x.kind = y.kind
   ·have g3 : (x.kind == y.kind) = true := by simp [h3]
    have HE := Hid.mk (fun W (k : Kept [] w W) => sameInts31 (hx.kept k (by simp)) (hy.kept k (by simp)) rfl rfl hl)
    have H1 := Hid.mk h1
    have H2 := Hid.mk h2
    have H3 := Hid.mk h3
    clear k2 h1 h2 h3 hx hy
    go_enter Tryz.func103, Tryz.ntmps103
    go_wp2_with (go_at_call 134; refine (HE.out _ (((Kept.refl [] w).alloc _).alloc _)).mono ?_; rintro e w3 ⟨rfl, hk3⟩)
    go_ret
    refine ⟨?_, (((Kept.refl [] w).alloc _).alloc _).trans hk3 (by simp)⟩
    rw [← HD.out]
    unfold sameL
    simp only [H1.out, H2.out, H3.out, true_and]
    rfl
   ·have g3 : (x.kind == y.kind) = false := by simp [h3]
    have HK := Hid.mk k2
    have HH := Hid.mk h3
    clear k2 hx hy h3 h1 h2
    go_enter Tryz.func103, Tryz.ntmps103
    go_wp2_with fail
    go_ret
    refine ⟨?_, HK.out⟩
    rw [← HD.out]
    unfold sameL
    simp only [HH.out, false_and, and_false, decide_false]
    rfl
  ·have g2 : ((x.ser : Int) == (y.ser : Int)) = false := by simp; omega
   have HK := Hid.mk k2
   have HH := Hid.mk h2
   clear k2 hx hy h2 h1
   go_enter Tryz.func103, Tryz.ntmps103
   go_wp2_with fail
   go_ret
   refine ⟨?_, HK.out⟩
   rw [← HD.out]
   unfold sameL
   simp only [HH.out, false_and, and_false, decide_false]
   rfl
 ·have g1 : (x.fr == y.fr) = false := by simp [h1]
  have HK := Hid.mk k2
  have HH := Hid.mk h1
  clear k2 hx hy h1
  go_enter Tryz.func103, Tryz.ntmps103
  go_wp2_with fail
  go_ret
  refine ⟨?_, HK.out⟩
  rw [← HD.out]
  unfold sameL
  simp only [HH.out, false_and, decide_false]
  rfl
end
theorem Kept.cell_eq {w w' : World} (k : Kept [] w w') {p : Addr} {u : Value} (h : w.cell? p = some u) : w'.cell? p = some u := by
 rw [k.cell (World.block_lt_of_cell? _ _ h) (by simp)]
 exact h
section
variable {P : Program} {w : World}
theorem wpList_append_run {ops : Array Oper} {rest : List Oper} {o : Oper} {a : Act} {Q : Exit → Act → World → Prop} (t u : TypeId) (sl x : Operand)
  (ho : o.op = .call { callee := .builtin .append, args := #[sl, x], argTypes := #[t, u] }) (hgd : Region.wanted o (yielded ops a.tmps) = true) (v y : Value) (hs : a.eval sl = v) (hx : a.eval x = y) (r : Value) (w' : World) (hrun : (Builtin.append_ #[t, u] o.type #[v, y]).run P w = .ok r w')
  (h : wpList P ops Q rest (a.put o.dst r) w') : wpList P ops Q (o :: rest) a w := by
 refine wpList_step fun K hK => ?_
 rw [if_pos hgd]
 unfold Oper.wp execOp
 simp only [ho, resolve, invoke, builtin, Sem.run_bind, Sem.run_pure, Result.andThen_ok, List.map_toArray, List.map_cons, List.map_nil, hs, hx, hrun]
 exact hK _ _ h
theorem step_append_run {ops : Array Oper} {o : Oper} {a : Act} {Q : Exit → Act → World → Prop} (t : TypeId) (sl x : Operand) (ho : o.op = .call { callee := .builtin .append, args := #[sl, x], argTypes := #[t, t] }) (hg : o.guard = none) (v y : Value) (hs : a.eval sl = v) (hx : a.eval x = y) {K : Act → World → Prop} {E : Prop} {r : Value} {w' : World} (hrun : (Builtin.append_ #[t, t] o.type #[v, y]).run P w = .ok r w') (hK : K (a.put o.dst r) w') :
  if Region.wanted o (yielded ops a.tmps) = true then Oper.wp P o a w K Q else E := by
 have hw : Region.wanted o (yielded ops a.tmps) = true := by simp [Region.wanted, hg]
 rw [if_pos hw]
 unfold Oper.wp execOp
 simp only [ho, resolve, invoke, builtin, Sem.run_bind, Sem.run_pure, Result.andThen_ok, List.map_toArray, List.map_cons, List.map_nil, hs, hx, hrun]
 exact hK
variable {b : Nat} {v0 v1 v2 v3 x : Value} {t : TypeId}
theorem cells4 (h : w.heap[b]? = some (.cells #[v0, v1, v2, v3] t (0, 0))) : w.cell? ⟨b, 0, none⟩ = some v0 ∧ w.cell? ⟨b, 1, none⟩ = some v1 ∧ w.cell? ⟨b, 2, none⟩ = some v2 ∧ w.cell? ⟨b, 3, none⟩ = some v3 := by simp [World.cell?, h]
theorem free4 (h : w.heap[b]? = some (.cells #[v0, v1, v2, v3] t (0, 0))) : w.frozen? ⟨b, 0, none⟩ = false ∧ w.frozen? ⟨b, 1, none⟩ = false ∧ w.frozen? ⟨b, 2, none⟩ = false ∧ w.frozen? ⟨b, 3, none⟩ = false := by simp [World.frozen?, h]
theorem set_at {cs : Array Value} {fz : Nat × Nat} {k : Nat} (h : w.heap[b]? = some (.cells cs t fz)) : (w.setCell ⟨b, k, none⟩ x).heap[b]? = some (.cells (cs.setIfInBounds k x) t fz) := by
 have hlt := lt_of_block h
 have h' : w.heap[b] = .cells cs t fz := by simpa [Array.getElem?_eq_getElem hlt] using h
 show (w.heap.modify b _)[b]? = _
 rw [Array.getElem?_eq_getElem (by simpa using hlt), Array.getElem_modify_self, h']
 rfl
theorem set4_0 (h : w.heap[b]? = some (.cells #[v0, v1, v2, v3] t (0, 0))) : (w.setCell ⟨b, 0, none⟩ x).heap[b]? = some (.cells #[x, v1, v2, v3] t (0, 0)) := set_at h
theorem set4_1 (h : w.heap[b]? = some (.cells #[v0, v1, v2, v3] t (0, 0))) : (w.setCell ⟨b, 1, none⟩ x).heap[b]? = some (.cells #[v0, x, v2, v3] t (0, 0)) := set_at h
theorem set4_2 (h : w.heap[b]? = some (.cells #[v0, v1, v2, v3] t (0, 0))) : (w.setCell ⟨b, 2, none⟩ x).heap[b]? = some (.cells #[v0, v1, x, v3] t (0, 0)) := set_at h
theorem set4_3 (h : w.heap[b]? = some (.cells #[v0, v1, v2, v3] t (0, 0))) : (w.setCell ⟨b, 3, none⟩ x).heap[b]? = some (.cells #[v0, v1, v2, x] t (0, 0)) := set_at h
theorem setCell_other {k : Nat} (h : w.heap[b]? = w.heap[b]?) {c : Nat} (hc : c ≠ b) : (w.setCell ⟨b, k, none⟩ x).heap[c]? = w.heap[c]? := Below.heap_setCell w ⟨b, k, none⟩ x c (by exact hc)
theorem box1 (w : World) (o : Obj) : ∃ W, w.alloc o = W ∧ Kept [] w W ∧ W.heap.size = w.heap.size + 1 ∧ W.heap[w.heap.size]? = some o := ⟨_, rfl, (Kept.refl [] w).alloc _, by simp, heap_alloc_new w _⟩
theorem box2 (w : World) (o o' : Obj) : ∃ W, (w.alloc o).alloc o' = W ∧ Kept [] w W ∧ W.heap.size = w.heap.size + 2 ∧ W.heap[w.heap.size]? = some o ∧ W.heap[w.heap.size + 1]? = some o' := by
 refine ⟨_, rfl, ((Kept.refl [] w).alloc _).alloc _, by simp, ?_, ?_⟩
 ·rw [Below.heap_alloc _ _ _ (by simp)]; exact heap_alloc_new w _
 ·have := heap_alloc_new (w.alloc o) o'
  simpa using this
theorem put4 (h : w.heap[b]? = some (.cells #[v0, v1, v2, v3] t (0, 0))) (x0 x1 x2 x3 : Value) : ∃ W, (((w.setCell ⟨b, 0, none⟩ x0).setCell ⟨b, 1, none⟩ x1).setCell ⟨b, 2, none⟩ x2).setCell ⟨b, 3, none⟩ x3 = W ∧ Kept [b] w W ∧ W.heap[b]? = some (.cells #[x0, x1, x2, x3] t (0, 0)) ∧ W.heap.size = w.heap.size :=
 ⟨_, rfl, ((((Kept.refl [b] w).setCell (p := ⟨b, 0, none⟩) (.inl (by simp)) x0).setCell (p := ⟨b, 1, none⟩) (.inl (by simp)) x1).setCell (p := ⟨b, 2, none⟩) (.inl (by simp)) x2).setCell (p := ⟨b, 3, none⟩) (.inl (by simp)) x3, set4_3 (set4_2 (set4_1 (set4_0 h))), by simp⟩
theorem results_cell_row2 {fn : Func} {p u : Tmp} {ty : TypeId} (h : fn.results = #[.cell p ty, .tmp u]) (tmps : Array Value) (w : World) (g : Nat) (t : TypeId) (cs : Array Value) (fr : Nat × Nat) (d : TypeDesc)
  (hp : tmps.getD p undef = .pointer (some ⟨g, 0, none⟩)) (hg : w.heap[g]? = some (.cells cs t fr)) (hu : P.underlying ty = some d) (hd : (match d with | .struct _ | .array _ _ => true | _ => false) = true) (hi : (P.info? ty).map (·.size) = some cs.size) (r : Value) (hr : tmps.getD u undef = r) :
  (results fn tmps).run P w = .ok (.tuple #[.agg cs, r]) w := by
 have hp' : tmps[p]?.getD undef = .pointer (some ⟨g, 0, none⟩) := by simpa using hp
 have hr' : tmps[u]?.getD undef = r := by simpa using hr
 simp [results, h, hp', hr', asAddr, run_loadVar_row w g t ty cs fr d hg hu hd hi]
end
end Go.Proofs.YtngnenbidpojeaaGreatDoor
namespace Go.Proofs.YtngnenbidpojeaaGreatDoor
set_option maxRecDepth 100000
open Go.RowKit Go.Shelf
set_option linter.unusedVariables false
def cloneS_ren : Go.Shelf.Ren := ⟨fun | 25 => 120 | n => n, fun | 9 => 9 | 3 => 3 | 4 => 4 | 37 => 73 | 0 => 0 | 47 => 248 | 5 => 5 | n => n, fun | n => n⟩
theorem cloneS : Go.Proofs.LaysPu.n25 Tryz.prog cloneS_ren := {
 mixed := by kernel_rfl
 f25 := Tryz.func120.trans (congrArg some (by kernel_rfl))
 t0 := Tryz.underlying0
 a0 := Tryz.isAgg0
 z0 := Tryz.sizeOf0
 v0 := Tryz.zeroValue0
 i0 := by kernel_rfl
 t3 := Tryz.underlying3
 a3 := Tryz.isAgg3
 z3 := Tryz.sizeOf3
 v3 := Tryz.zeroValue3
 i3 := by kernel_rfl
 t4 := Tryz.underlying4
 a4 := Tryz.isAgg4
 z4 := Tryz.sizeOf4
 v4 := Tryz.zeroValue4
 i4 := by kernel_rfl
 t5 := Tryz.underlying5
 a5 := Tryz.isAgg5
 z5 := Tryz.sizeOf5
 v5 := Tryz.zeroValue5
 i5 := by kernel_rfl
 t9 := Tryz.underlying9
 a9 := Tryz.isAgg9
 z9 := Tryz.sizeOf9
 v9 := Tryz.zeroValue9
 i9 := by kernel_rfl
 t37 := Tryz.underlying73
 a37 := Tryz.isAgg73
 z37 := Tryz.sizeOf73
 v37 := Tryz.zeroValue73
 i37 := by kernel_rfl
 t47 := Tryz.underlying248
 a47 := Tryz.isAgg248
 z47 := Tryz.sizeOf248
 v47 := Tryz.zeroValue248
 i47 := by kernel_rfl }
section
variable {w : World}
set_option maxHeartbeats 1000000 in
theorem clone32 (s : List UInt8) (hs : s.length ≤ 281474976710656) : Calls Tryz.prog 83 #[Sv s] w fun e w' => e = .returned (Sv s) ∧ Kept [] w w' := by
 have h : Calls Tryz.prog 120 #[Sv s] w fun e w' => e = .returned (Sv s) ∧ Below w.heap.size w w' := AnyPu.stringslite_Clone cloneS ⟨s.toArray⟩ w (by simpa [ByteArray.size] using hs)
 go_enter Tryz.func83, Tryz.ntmps83
 go_wp2_with (go_at_call 120; refine h.mono ?_; rintro e w1 ⟨rfl, hb⟩)
 go_ret
 exact ⟨rfl, ⟨hb.os, hb.tape, hb.output, hb.size, fun k hk _ => hb.block k hk⟩⟩
set_option maxRecDepth 100000 in
set_option maxHeartbeats 1000000 in
theorem copy17 (x : Lt) (a : Option Addr) (c : Nat) (hx : ReadsJ w (.slice a x.args.length c) x.args) (hs : x.fr.length ≤ 100000) (hl : x.args.length ≤ 100000) :
  Calls Tryz.prog 75 #[Lv x a c] w fun e w' => ∃ a' c', e = .returned (Lv x a' c') ∧ OwnsJ w' (.slice a' x.args.length c') x.args ∧ Kept [] w w' ∧ Fresh w (.slice a' x.args.length c') := by
 have HC : Hid (∀ W, Calls Tryz.prog 83 #[Sv x.fr] W fun e w' => e = .returned (Sv x.fr) ∧ Kept [] W w') := fun W => clone32 x.fr (by omega)
 have HX := Hid.mk hx
 clear hx
 go_enter Tryz.func75, Tryz.ntmps75
 go_wp2_with fail
 obtain ⟨W0, e0, k0, hz0, hb0, hb1⟩ := box2 w (.cells #[Sv x.fr, .int .u64 (x.ser : Int), .int .i64 x.kind, .slice a x.args.length c] 81) (.cells #[.string { data := #[] }, .int .u64 0, .int .i64 0, .slice none 0 0] 81)
 rw [e0]
 clear e0
 refine (HC.out _).mono ?_
 rintro e w1 ⟨rfl, k1⟩
 have hb2 := k1.keeps hb0 (by simp)
 have hb3 := k1.keeps hb1 (by simp)
 have k2 := k0.trans k1 (by simp)
 have hz2 := k1.size
 have hz3 : w.heap.size + 2 ≤ w1.heap.size := by omega
 have HZ := Hid.mk hz3
 clear hz3 hz2 hz0 hb0 hb1
 obtain ⟨c0, -, -, c3⟩ := cells4 hb2
 obtain ⟨f0, -, -, f3⟩ := free4 hb2
 have k3 : Kept [] w (w1.setCell ⟨w.heap.size, 0, none⟩ (Sv x.fr)) := k2.setCell (.inr (Nat.le_refl _)) _
 have hb4 := set4_0 (x := Sv x.fr) hb2
 obtain ⟨a2, c2, w2, hrun, ho, hg, hN⟩ := run_appendR rt23 (w1.setCell ⟨w.heap.size, 0, none⟩ (Sv x.fr)) 79 (.slice none 0 0) [] (OwnsR.nil 2 1 _) _ (CJ x.args) (CJ_wide _) (HX.out.kept k3 (by simp)) (by rw [CJ_length]; simp; omega)
 rw [List.nil_append, List.length_nil, Nat.zero_add, CJ_length] at *
 have hz4 : w.heap.size + 2 ≤ w2.heap.size := by
  have := hg.size
  have h := HZ.out
  simp at this
  omega
 have hb5 : w2.heap[w.heap.size]? = _ := (hg.block w.heap.size (by have := HZ.out; simp; omega) (by simp [Value.ownBlock])).trans hb4
 have hb6 : w2.heap[w.heap.size + 1]? = _ := (hg.block (w.heap.size + 1) (by have := HZ.out; simp; omega) (by simp [Value.ownBlock])).trans ((setCell_other (b := w.heap.size) (k := 0) rfl (by omega)).trans hb3)
 have k4 : Kept [] w w2 := k3.grown hg (by simp [Value.ownBlock])
 obtain ⟨c4, c5, c6, c7⟩ := cells4 hb5
 obtain ⟨f4, f5, f6, f7⟩ := free4 hb5
 obtain ⟨d4, d5, d6, d7⟩ := cells4 hb6
 obtain ⟨g4, g5, g6, g7⟩ := free4 hb6
 go_wp2_with (at_builtin; refine wpList_append_run 79 79 _ _ rfl (by rfl) _ _ rfl rfl _ _ hrun ?_)
 have h8 := set4_3 (x := .slice a2 x.args.length c2) (set4_2 (x := .int .i64 x.kind) (set4_1 (x := .int .u64 (x.ser : Int)) (set4_0 (x := Sv x.fr) ((setCell_other (w := w2) (b := w.heap.size) (k := 3) (x := .slice a2 x.args.length c2) rfl (by omega : w.heap.size + 1 ≠ w.heap.size)).trans hb6))))
 have k8 := ((((k4.setCell (p := ⟨w.heap.size, 3, none⟩) (.inr (Nat.le_refl _)) (.slice a2 x.args.length c2)).setCell (p := ⟨w.heap.size + 1, 0, none⟩) (.inr (Nat.le_succ _)) (Sv x.fr)).setCell (p := ⟨w.heap.size + 1, 1, none⟩) (.inr (Nat.le_succ _)) (.int .u64 (x.ser : Int))).setCell (p := ⟨w.heap.size + 1, 2, none⟩) (.inr (Nat.le_succ _)) (.int .i64 x.kind)).setCell (p := ⟨w.heap.size + 1, 3, none⟩) (.inr (Nat.le_succ _)) (.slice a2 x.args.length c2)
 have hfr : ∀ g, (Value.slice a2 x.args.length c2).ownBlock = some g → w.heap.size + 2 ≤ g := fun g hg' => by
  rcases hN g hg' with h | h
  ·simp [Value.ownBlock] at h
  ·have := HZ.out
   simp at h
   omega
 have kT : Kept [w.heap.size, w.heap.size + 1] w2 _ := ((((((Kept.refl [w.heap.size, w.heap.size + 1] w2).setCell (p := ⟨w.heap.size, 3, none⟩) (.inl (by simp)) (.slice a2 x.args.length c2)).setCell (p := ⟨w.heap.size + 1, 0, none⟩) (.inl (by simp)) (Sv x.fr)).setCell (p := ⟨w.heap.size + 1, 1, none⟩) (.inl (by simp)) (.int .u64 (x.ser : Int))).setCell (p := ⟨w.heap.size + 1, 2, none⟩) (.inl (by simp)) (.int .i64 x.kind)).setCell (p := ⟨w.heap.size + 1, 3, none⟩) (.inl (by simp)) (.slice a2 x.args.length c2))
 refine bodyPost_ret (results_cell_row (p := 2) (ty := 81) rfl _ _ (w.heap.size + 1) 81 _ (0, 0) _ rfl h8 Tryz.underlying81 rfl (by kernel_rfl)) rfl ?_
 refine ⟨a2, c2, rfl, OwnsR.kept ho kT (fun g hg' hm => ?_), k8, fun g hg' => by have := hfr g hg'; omega⟩
 have := hfr g hg'
 simp at hm
 omega
set_option maxRecDepth 100000 in
set_option maxHeartbeats 1000000 in
theorem copy25 (x : Lt) (a : Option Addr) (c : Nat) (hx : ReadsJ w (.slice a x.args.length c) x.args) (hl : x.args.length ≤ 100000) :
  Calls Tryz.prog 79 #[Lv x a c] w fun e w' => ∃ a' c', e = .returned (Lv x a' c') ∧ OwnsJ w' (.slice a' x.args.length c') x.args ∧ Kept [] w w' ∧ Fresh w (.slice a' x.args.length c') := by
 have HX := Hid.mk hx
 clear hx
 go_enter Tryz.func79, Tryz.ntmps79
 obtain ⟨W0, e0, k0, hz0, hb0, hb1⟩ := box2 w (.cells #[Sv x.fr, .int .u64 (x.ser : Int), .int .i64 x.kind, .slice a x.args.length c] 81) (.cells #[.string { data := #[] }, .int .u64 0, .int .i64 0, .slice none 0 0] 81)
 have hO : OwnsR 2 1 (W0.alloc (.cells #[] 2)) (.slice (some ⟨w.heap.size + 2, 0, none⟩) 0 0) [] := by
  have := World.ownsRow_made (base := 0) (e := 2) (size := 1) W0 #[] 0 (Nat.zero_le _) (by simp) (by simp)
  rw [hz0] at this
  exact this
 have k1 := k0.alloc (.cells #[] 2)
 have hb2 : (W0.alloc (.cells #[] 2)).heap[w.heap.size]? = _ := (Below.heap_alloc _ _ _ (by omega)).trans hb0
 have hb3 : (W0.alloc (.cells #[] 2)).heap[w.heap.size + 1]? = _ := (Below.heap_alloc _ _ _ (by omega)).trans hb1
 have HZ : Hid (w.heap.size + 3 = (W0.alloc (.cells #[] 2)).heap.size) := Hid.mk (by simp [hz0])
 rw [← e0] at hO k1 hb2 hb3 HZ
 clear e0 hb0 hb1 hz0 k0
 generalize hW1 : ((w.alloc (.cells #[Sv x.fr, .int .u64 (x.ser : Int), .int .i64 x.kind, .slice a x.args.length c] 81)).alloc (.cells #[.string { data := #[] }, .int .u64 0, .int .i64 0, .slice none 0 0] 81)).alloc (.cells #[] 2) = W1 at hO k1 hb2 hb3 HZ
 obtain ⟨a2, c2, w2, hrun, ho, hg, hN⟩ := run_appendR rt23 W1 79 _ [] hO _ (CJ x.args) (CJ_wide _) (HX.out.kept k1 (by simp)) (by rw [CJ_length]; simp; omega)
 rw [List.nil_append, List.length_nil, Nat.zero_add, CJ_length] at *
 rw [← hW1] at hrun
 have hz4 : Hid (w.heap.size + 3 ≤ w2.heap.size) := by
  have := hg.size
  have h := HZ.out
  show _ ≤ _
  omega
 have hb5 : w2.heap[w.heap.size]? = _ := (hg.block w.heap.size (by have := HZ.out; omega) (by simp [Value.ownBlock])).trans hb2
 have hb6 : w2.heap[w.heap.size + 1]? = _ := (hg.block (w.heap.size + 1) (by have := HZ.out; omega) (by simp [Value.ownBlock])).trans hb3
 have k4 : Kept [] w w2 := k1.grown hg (by simp [Value.ownBlock])
 have hfr : Hid (∀ g, (Value.slice a2 x.args.length c2).ownBlock = some g → w.heap.size + 2 ≤ g) := fun g hg' => by
  rcases hN g hg' with h | h
  ·simp [Value.ownBlock] at h; omega
  ·have := HZ.out
   omega
 clear hW1 hO hb2 hb3 k1 hg hN HZ
 obtain ⟨c4, c5, c6, c7⟩ := cells4 hb5
 obtain ⟨f4, f5, f6, f7⟩ := free4 hb5
 obtain ⟨d4, d5, d6, d7⟩ := cells4 hb6
 obtain ⟨g4, g5, g6, g7⟩ := free4 hb6
 go_wp2_with (at_builtin; refine wpList_append_run 79 79 _ _ rfl (by rfl) _ _ rfl rfl _ _ hrun ?_)
 have h7 := (setCell_other (w := w2) (b := w.heap.size) (k := 3) (x := .slice a2 x.args.length c2) rfl (by omega : w.heap.size + 1 ≠ w.heap.size)).trans hb6
 have k7 := k4.setCell (p := ⟨w.heap.size, 3, none⟩) (.inr (Nat.le_refl _)) (.slice a2 x.args.length c2)
 have kT7 := (Kept.refl [w.heap.size, w.heap.size + 1] w2).setCell (p := ⟨w.heap.size, 3, none⟩) (.inl (by simp)) (.slice a2 x.args.length c2)
 obtain ⟨W8, e8, k8, h8, -⟩ := put4 h7 (Sv x.fr) (.int .u64 (x.ser : Int)) (.int .i64 x.kind) (.slice a2 x.args.length c2)
 have kT8 := kT7.trans k8 (by simp)
 rw [e8]
 refine bodyPost_ret (results_cell_row (p := 2) (ty := 81) rfl _ _ (w.heap.size + 1) 81 _ (0, 0) _ rfl h8 Tryz.underlying81 rfl (by kernel_rfl)) rfl ?_
 refine ⟨a2, c2, rfl, OwnsR.kept ho kT8 (fun g hg' hm => ?_), k7.trans k8 (by simp), fun g hg' => by have := hfr.out g hg'; omega⟩
 have := hfr.out g hg'
 simp at hm
 omega
end
end Go.Proofs.YtngnenbidpojeaaGreatDoor
