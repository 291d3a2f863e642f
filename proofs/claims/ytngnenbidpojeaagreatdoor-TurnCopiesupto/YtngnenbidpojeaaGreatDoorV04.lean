import Derived.Deep.QuietTactic
import Derived.BigQuiet
import Derived.Deep.RegionHeld3
import Derived.Laws.Rows
import Derived.Test.YtngnenbidpojeaaGreatDoorV03
/-
  Letters: what a letter is, its bytes, the letter that bytes begin with; and letters in memory.
-/
namespace Go.Proofs.YtngnenbidpojeaaGreatDoor
set_option maxRecDepth 100000
open Go.RowKit
set_option linter.unusedVariables false
theorem Kept.drewN {S : List Nat} {a w : World} (h : Kept S a w) (n : Nat) : Kept S a (w.drewN n) := ⟨h.os, h.tape, h.output, h.size, h.block⟩
theorem Hid.mk {p : Prop} (h : p) : Hid p := h
/-- A text as a value. -/
abbrev Sv (l : List UInt8) : Value := .string ⟨l.toArray⟩
/-- An integer of 64 bits. -/
def I64 (z : Int) : Prop := -9223372036854775808 ≤ z ∧ z ≤ 9223372036854775807
/-- A letter. -/
structure Lt where
  fr : List UInt8
  ser : Nat
  kind : Int
  args : List Int
instance : Inhabited Lt := ⟨⟨[], 0, 0, []⟩⟩
/-- Its numbers are of 64 bits. -/
structure Lt.ok (x : Lt) : Prop where
  ser : x.ser < 18446744073709551616
  kind : I64 x.kind
  args : ∀ z ∈ x.args, I64 z
/-- It keeps the limits. -/
def Lt.formed (x : Lt) : Bool := decide (x.fr.length ≤ 40) && decide (x.args.length ≤ 4)
/-- Integers' bytes. -/
def encJ (l : List Int) : List UInt8 := l.flatMap fun z => enc (fold z)
/-- A letter's bytes. -/
def encL (x : Lt) : List UInt8 := enc x.fr.length ++ x.fr ++ enc x.ser ++ enc (fold x.kind) ++ enc x.args.length ++ encJ x.args
theorem encJ_append (a b : List Int) : encJ (a ++ b) = encJ a ++ encJ b := by simp [encJ]
theorem encJ_length (l : List Int) : l.length ≤ (encJ l).length ∧ (encJ l).length ≤ 9 * l.length := by
  induction l with
  | nil => simp [encJ]
  | cons z l ih =>
    have h := enc_length (fold z)
    have e : encJ (z :: l) = enc (fold z) ++ encJ l := rfl
    rw [e, List.length_append, List.length_cons]
    omega
theorem encL_length (x : Lt) : (encL x).length ≤ x.fr.length + 9 * x.args.length + 36 := by
  have h1 := enc_length x.fr.length
  have h2 := enc_length x.ser
  have h3 := enc_length (fold x.kind)
  have h4 := enc_length x.args.length
  have h5 := encJ_length x.args
  simp only [encL, List.length_append]
  omega
/-- n integers that bytes begin with. -/
def rints : Nat → List UInt8 → Bool → List Int × List UInt8 × Bool
  | 0, l, bad => ([], l, bad)
  | n + 1, l, bad =>
    let r := rints n (rnum l bad).2.1 (rnum l bad).2.2
    (unfold (rnum l bad).1 :: r.1, r.2.1, r.2.2)
/-- The head of a letter: From, Serial, Kind, how many Args; what is left, and whether all was there. -/
structure Hd where
  fr : List UInt8
  ser : Nat
  kind : Int
  n : Nat
  rest : List UInt8
  bad : Bool
def rhead (l : List UInt8) (bad : Bool) : Hd :=
  let t := rtext l bad
  let s := rnum t.2.1 t.2.2
  let k := rnum s.2.1 s.2.2
  let n := rnum k.2.1 k.2.2
  ⟨t.1, s.1, unfold k.1, n.1, n.2.1, n.2.2⟩
/-- The letter that bytes begin with, if they begin with one that is formed; what is left, and whether all was there. -/
def rlet (l : List UInt8) (bad : Bool) : Option Lt × List UInt8 × Bool :=
  let h := rhead l bad
  if 4 < h.n then (none, h.rest, h.bad)
  else
    let r := rints h.n h.rest h.bad
    if r.2.2 = true ∨ 40 < h.fr.length then (none, r.2.1, r.2.2) else (some ⟨h.fr, h.ser, h.kind, r.1⟩, r.2.1, r.2.2)
theorem rints_length (n : Nat) : ∀ l bad, (rints n l bad).1.length = n := by
  induction n with
  | zero => intro l bad; rfl
  | succ n ih => intro l bad; simp [rints, ih]
theorem rints_snoc (n : Nat) : ∀ l bad, rints (n + 1) l bad = ((rints n l bad).1 ++ [unfold (rnum (rints n l bad).2.1 (rints n l bad).2.2).1], (rnum (rints n l bad).2.1 (rints n l bad).2.2).2.1, (rnum (rints n l bad).2.1 (rints n l bad).2.2).2.2) := by
  induction n with
  | zero => intro l bad; rfl
  | succ n ih =>
    intro l bad
    have e : rints (n + 1 + 1) l bad = (unfold (rnum l bad).1 :: (rints (n + 1) (rnum l bad).2.1 (rnum l bad).2.2).1, (rints (n + 1) (rnum l bad).2.1 (rnum l bad).2.2).2.1, (rints (n + 1) (rnum l bad).2.1 (rnum l bad).2.2).2.2) := rfl
    have e2 : rints (n + 1) l bad = (unfold (rnum l bad).1 :: (rints n (rnum l bad).2.1 (rnum l bad).2.2).1, (rints n (rnum l bad).2.1 (rnum l bad).2.2).2.1, (rints n (rnum l bad).2.1 (rnum l bad).2.2).2.2) := rfl
    rw [e, ih, e2]
    rfl
theorem unfold_I64 (n : Nat) (h : n < 18446744073709551616) : I64 (unfold n) := by
  unfold unfold I64; split <;> omega
theorem rints_I64 (n : Nat) : ∀ l bad, ∀ z ∈ (rints n l bad).1, I64 z := by
  induction n with
  | zero => intro l bad z hz; simp [rints] at hz
  | succ n ih =>
    intro l bad z hz
    simp only [rints, List.mem_cons] at hz
    rcases hz with rfl | hz
    · exact unfold_I64 _ (rnum_lt _ _)
    · exact ih _ _ z hz
theorem rhead_lt (l : List UInt8) (bad : Bool) : (rhead l bad).ser < 18446744073709551616 ∧ I64 (rhead l bad).kind ∧ (rhead l bad).n < 18446744073709551616 :=
  ⟨rnum_lt _ _, unfold_I64 _ (rnum_lt _ _), rnum_lt _ _⟩
/-- What is read is a formed letter of 64 bits. -/
theorem rlet_ok {l : List UInt8} {bad : Bool} {x : Lt} (h : (rlet l bad).1 = some x) : x.ok ∧ x.formed = true := by
  unfold rlet at h
  obtain ⟨h1, h2, h3⟩ := rhead_lt l bad
  revert h
  generalize rhead l bad = d at h1 h2 h3
  intro h
  dsimp only at h
  split at h
  · cases h
  · rename_i h4
    split at h
    · cases h
    · rename_i h5
      cases h
      refine ⟨⟨h1, h2, rints_I64 _ _ _⟩, ?_⟩
      have := rints_length d.n d.rest d.bad
      have h6 : d.fr.length ≤ 40 := by omega
      simp only [Lt.formed, this, h6, decide_true, Bool.true_and, decide_eq_true_eq]
      omega
theorem rints_back (a : List Int) : ∀ rest, (∀ z ∈ a, I64 z) → rints a.length (encJ a ++ rest) false = (a, rest, false) := by
  induction a with
  | nil => intro rest _; rfl
  | cons z a ih =>
    intro rest h
    have e : encJ (z :: a) = enc (fold z) ++ encJ a := rfl
    have hz := h z (by simp)
    have h1 := rnum_back (fold z) (fold_lt z hz.1 hz.2) (encJ a ++ rest)
    rw [List.length_cons, rints, e, List.append_assoc, h1]
    dsimp only
    rw [ih rest (fun y hy => h y (by simp [hy]))]
    simp [unfold_fold z]
/-- What was encoded is read as it was. -/
theorem rlet_back (x : Lt) (hx : x.ok) (hf : x.formed = true) (rest : List UInt8) : rlet (encL x ++ rest) false = (some x, rest, false) := by
  have hf' : x.fr.length ≤ 40 ∧ x.args.length ≤ 4 := by simpa [Lt.formed] using hf
  have e : encL x ++ rest = enc x.fr.length ++ (x.fr ++ (enc x.ser ++ (enc (fold x.kind) ++ (enc x.args.length ++ (encJ x.args ++ rest))))) := by simp only [encL, List.append_assoc]
  have h1 := rtext_back x.fr (by omega) (enc x.ser ++ (enc (fold x.kind) ++ (enc x.args.length ++ (encJ x.args ++ rest))))
  have h2 := rnum_back x.ser hx.ser (enc (fold x.kind) ++ (enc x.args.length ++ (encJ x.args ++ rest)))
  have h3 := rnum_back (fold x.kind) (fold_lt _ hx.kind.1 hx.kind.2) (enc x.args.length ++ (encJ x.args ++ rest))
  have h4 := rnum_back x.args.length (by omega) (encJ x.args ++ rest)
  have h5 := rints_back x.args rest hx.args
  have h6 := unfold_fold x.kind
  have hh : rhead (encL x ++ rest) false = ⟨x.fr, x.ser, x.kind, x.args.length, encJ x.args ++ rest, false⟩ := by
    unfold rhead
    rw [e, h1]
    dsimp only
    rw [h2]
    dsimp only
    rw [h3]
    dsimp only
    rw [h4, h6]
  unfold rlet
  rw [hh]
  dsimp only
  rw [if_neg (by omega), h5]
  dsimp only
  rw [if_neg (by simp; omega)]
/-- What was read wholly begins with the number's bytes. -/
theorem rnum_fwd {l : List UInt8} {bad : Bool} (h : (rnum l bad).2.2 = false) : bad = false ∧ l = enc (rnum l bad).1 ++ (rnum l bad).2.1 := by
  unfold rnum at h ⊢
  split at h
  · cases h
  · rename_i hk
    rw [if_neg hk]
    exact ⟨h, by rw [enc_dec l hk, List.take_append_drop]⟩
theorem rtext_fwd {l : List UInt8} {bad : Bool} (h : (rtext l bad).2.2 = false) : bad = false ∧ l = enc (rtext l bad).1.length ++ ((rtext l bad).1 ++ (rtext l bad).2.1) := by
  unfold rtext at h ⊢
  split at h
  · cases h
  · rename_i hk
    rw [if_neg hk]
    obtain ⟨h1, h2⟩ := rnum_fwd (l := l) (bad := bad) h
    refine ⟨h1, ?_⟩
    dsimp only
    rw [List.take_append_drop, List.length_take, Nat.min_eq_left (by omega)]
    exact h2
theorem rints_fwd (n : Nat) : ∀ l bad, (rints n l bad).2.2 = false → bad = false ∧ l = encJ (rints n l bad).1 ++ (rints n l bad).2.1 := by
  induction n with
  | zero => intro l bad h; exact ⟨h, rfl⟩
  | succ n ih =>
    intro l bad h
    simp only [rints] at h ⊢
    obtain ⟨h1, h2⟩ := ih _ _ h
    obtain ⟨h3, h4⟩ := rnum_fwd h1
    refine ⟨h3, ?_⟩
    have e : ∀ (z : Int) (a : List Int), encJ (z :: a) = enc (fold z) ++ encJ a := fun z a => rfl
    rw [e, fold_unfold, List.append_assoc, ← h2]
    exact h4
/-- What is read wholly has just the letter's bytes. -/
theorem rlet_fwd {l rest : List UInt8} {bad : Bool} {x : Lt} (h : rlet l bad = (some x, rest, false)) : bad = false ∧ l = encL x ++ rest := by
  unfold rlet at h
  dsimp only at h
  split at h
  · cases h
  · split at h
    · cases h
    · rename_i h4 h5
      simp only [Prod.mk.injEq, Option.some.injEq] at h
      obtain ⟨rfl, rfl, hb⟩ := h
      obtain ⟨hb1, e1⟩ := rints_fwd _ _ _ hb
      have hb2 : (rhead l bad).bad = (rnum (rnum (rnum (rtext l bad).2.1 (rtext l bad).2.2).2.1 (rnum (rtext l bad).2.1 (rtext l bad).2.2).2.2).2.1 (rnum (rnum (rtext l bad).2.1 (rtext l bad).2.2).2.1 (rnum (rtext l bad).2.1 (rtext l bad).2.2).2.2).2.2).2.2 := rfl
      obtain ⟨hb3, e2⟩ := rnum_fwd (hb2.symm.trans hb1)
      obtain ⟨hb4, e3⟩ := rnum_fwd hb3
      obtain ⟨hb5, e4⟩ := rnum_fwd hb4
      obtain ⟨hb6, e5⟩ := rtext_fwd hb5
      refine ⟨hb6, ?_⟩
      have el := rints_length (rhead l bad).n (rhead l bad).rest (rhead l bad).bad
      have ek : fold (rhead l bad).kind = (rnum (rnum (rtext l bad).2.1 (rtext l bad).2.2).2.1 (rnum (rtext l bad).2.1 (rtext l bad).2.2).2.2).1 := fold_unfold _
      simp only [encL, List.append_assoc, ← e1]
      rw [el, ek]
      refine e5.trans ?_
      show _ = enc (rtext l bad).1.length ++ ((rtext l bad).1 ++ (_ ++ (_ ++ (_ ++ _))))
      congr 2
      refine e4.trans ?_
      show _ = enc (rnum (rtext l bad).2.1 (rtext l bad).2.2).1 ++ _
      congr 1
      refine e3.trans ?_
      congr 1
/-- Integers as rows of one cell. -/
def CJ (l : List Int) : List (List Value) := l.map fun z => [.int .i64 z]
theorem CJ_length (l : List Int) : (CJ l).length = l.length := by simp [CJ]
theorem CJ_wide (l : List Int) : Wide 1 (CJ l) := fun r hr => by
  obtain ⟨z, _, rfl⟩ := List.mem_map.1 hr
  exact ⟨rfl, fun u hu => by simp at hu; subst hu; rfl⟩
/-- The slice v reads as the integers l. -/
def ReadsJ (w : World) (v : Value) (l : List Int) : Prop := ReadsR 1 w v (CJ l)
theorem ReadsJ.nil (w : World) : ReadsJ w (.slice none 0 0) [] := ReadsR.nil 1 w
theorem ReadsJ.kept {S : List Nat} {w w' : World} {v : Value} {l : List Int} (h : ReadsJ w v l) (k : Kept S w w') (hn : ∀ g, v.ownBlock = some g → g ∉ S) : ReadsJ w' v l := ReadsR.kept h k hn
theorem ReadsJ.form {w : World} {v : Value} {l : List Int} (h : ReadsJ w v l) : ∃ a c, v = .slice a l.length c ∧ l.length ≤ c ∧ c ≤ 9223372036854775807 := by
  have := ReadsR.form h
  rwa [CJ_length] at this
theorem ReadsJ.bound {w : World} {a : Option Addr} {n c : Nat} {l : List Int} (h : ReadsJ w (.slice a n c) l) : n = l.length ∧ n ≤ c ∧ c ≤ 9223372036854775807 := by
  obtain ⟨a', c', e, h1, h2⟩ := h.form
  injection e with _ e2 e3
  subst e2 e3
  exact ⟨rfl, h1, h2⟩
theorem ReadsJ.at {w : World} {a : Option Addr} {n c : Nat} {l : List Int} (h : ReadsJ w (.slice a n c) l) {j : Nat} {z : Int} (hz : l[j]? = some z) : ∃ b o, a = some ⟨b, o, none⟩ ∧ w.cell? ⟨b, o + j, none⟩ = some (.int .i64 z) := by
  obtain ⟨b, o, c', e, hc⟩ := ReadsR.at h j [.int .i64 z] (by simp [CJ, hz])
  injection e with e _ _
  have h0 := hc 0 _ rfl
  rw [Nat.add_zero, Nat.mul_one] at h0
  exact ⟨b, o, e, h0⟩
theorem ReadsJ.lt {w : World} {v : Value} {l : List Int} (h : ReadsJ w v l) (hl : l ≠ []) : ∃ g, v.ownBlock = some g ∧ g < w.heap.size := ReadsR.lt h (CJ_wide l) (by omega) (by intro e; apply hl; simpa [CJ] using e)
/-- The slice v owns the integers l. -/
def OwnsJ (w : World) (v : Value) (l : List Int) : Prop := OwnsR 2 1 w v (CJ l)
theorem OwnsJ.nil (w : World) : OwnsJ w (.slice none 0 0) [] := OwnsR.nil 2 1 w
theorem OwnsJ.reads {w : World} {v : Value} {l : List Int} (h : OwnsJ w v l) : ReadsJ w v l := OwnsR.reads h (CJ_wide l)
theorem OwnsJ.kept {S : List Nat} {w w' : World} {v : Value} {l : List Int} (h : OwnsJ w v l) (k : Kept S w w') (hn : ∀ g, v.ownBlock = some g → g ∉ S) : OwnsJ w' v l := OwnsR.kept h k hn
theorem OwnsJ.form {w : World} {v : Value} {l : List Int} (h : OwnsJ w v l) : ∃ a c, v = .slice a l.length c ∧ l.length ≤ c ∧ c ≤ 9223372036854775807 := by
  have := OwnsR.form h
  rwa [CJ_length] at this
theorem OwnsJ.lt {w : World} {v : Value} {l : List Int} (h : OwnsJ w v l) {g : Nat} (hg : v.ownBlock = some g) : g < w.heap.size := OwnsR.lt h hg
theorem rt23 : RowT 79 2 1 8 (.int .i64 0) := ⟨Tryz.underlying79, by kernel_rfl, rfl, by omega, by omega⟩
/-- A letter, and where its Args lie. -/
structure Lq where
  x : Lt
  ad : Option Addr
  cap : Nat
instance : Inhabited Lq := ⟨⟨default, none, 0⟩⟩
abbrev Lq.sl (q : Lq) : Value := .slice q.ad q.x.args.length q.cap
/-- A letter's cells. -/
def cellsQ (q : Lq) : List Value := [Sv q.x.fr, .int .u64 (q.x.ser : Int), .int .i64 q.x.kind, q.sl]
/-- A letter as a value. -/
abbrev Lv (x : Lt) (a : Option Addr) (c : Nat) : Value := .agg #[Sv x.fr, .int .u64 (x.ser : Int), .int .i64 x.kind, .slice a x.args.length c]
def CQ (l : List Lq) : List (List Value) := l.map cellsQ
theorem CQ_length (l : List Lq) : (CQ l).length = l.length := by simp [CQ]
theorem CQ_append (a b : List Lq) : CQ (a ++ b) = CQ a ++ CQ b := by simp [CQ]
theorem CQ_wide (l : List Lq) : Wide 4 (CQ l) := fun r hr => by
  obtain ⟨x, _, rfl⟩ := List.mem_map.1 hr
  refine ⟨rfl, fun v hv => ?_⟩
  simp [cellsQ] at hv
  rcases hv with rfl | rfl | rfl | rfl <;> rfl
/-- The slice v reads as these letters. -/
def RowQ (w : World) (v : Value) (l : List Lq) : Prop := ReadsR 4 w v (CQ l)
/-- Their Args lie there. -/
def ValsQ (w : World) (l : List Lq) : Prop := ∀ q ∈ l, ReadsJ w q.sl q.x.args
theorem RowQ.kept {S : List Nat} {w w' : World} {v : Value} {l : List Lq} (h : RowQ w v l) (k : Kept S w w') (hn : ∀ g, v.ownBlock = some g → g ∉ S) : RowQ w' v l := ReadsR.kept h k hn
theorem ValsQ.kept {S : List Nat} {w w' : World} {l : List Lq} (h : ValsQ w l) (k : Kept S w w') (hn : ∀ q ∈ l, ∀ g, q.sl.ownBlock = some g → g ∉ S) : ValsQ w' l := fun q hq => (h q hq).kept k (hn q hq)
theorem ValsQ.kept0 {w w' : World} {l : List Lq} (h : ValsQ w l) (k : Kept [] w w') : ValsQ w' l := h.kept k (by simp)
theorem RowQ.form {w : World} {v : Value} {l : List Lq} (h : RowQ w v l) : ∃ a c, v = .slice a l.length c ∧ l.length ≤ c ∧ c ≤ 9223372036854775807 := by
  have := ReadsR.form h
  rwa [CQ_length] at this
theorem RowQ.bound {w : World} {a : Option Addr} {n c : Nat} {l : List Lq} (h : RowQ w (.slice a n c) l) : n = l.length ∧ n ≤ c ∧ c ≤ 9223372036854775807 := by
  obtain ⟨a', c', e, h1, h2⟩ := h.form
  injection e with _ e2 e3
  subst e2 e3
  exact ⟨rfl, h1, h2⟩
theorem RowQ.at {w : World} {a : Option Addr} {n c : Nat} {l : List Lq} (h : RowQ w (.slice a n c) l) {j : Nat} {q : Lq} (hq : l[j]? = some q) : ∃ b o, a = some ⟨b, o, none⟩ ∧ w.cell? ⟨b, o + j * 4, none⟩ = some (Sv q.x.fr) ∧ w.cell? ⟨b, o + j * 4 + 1, none⟩ = some (.int .u64 (q.x.ser : Int)) ∧ w.cell? ⟨b, o + j * 4 + 2, none⟩ = some (.int .i64 q.x.kind) ∧ w.cell? ⟨b, o + j * 4 + 3, none⟩ = some q.sl := by
  obtain ⟨b, o, c', e, hc⟩ := ReadsR.at h j (cellsQ q) (by simp [CQ, hq])
  injection e with e _ _
  have h0 := hc 0 _ rfl
  have h1 := hc 1 _ rfl
  have h2 := hc 2 _ rfl
  have h3 := hc 3 _ rfl
  rw [Nat.add_zero] at h0
  exact ⟨b, o, e, h0, h1, h2, h3⟩
end Go.Proofs.YtngnenbidpojeaaGreatDoor
/-
  Formed, and rows of integers that are held against each other.
-/
namespace Go.Proofs.YtngnenbidpojeaaGreatDoor
set_option maxRecDepth 100000
open Go.RowKit
set_option linter.unusedVariables false
section
variable {w : World}
theorem Lt.formed_eq (x : Lt) (b1 b2 : Bool) (h1 : (decide ((x.fr.length : Int) ≤ 40)) = b1) (h2 : decide ((x.args.length : Int) ≤ 4) = b2) : x.formed = (b1 && b2) := by
  subst h1 h2
  unfold Lt.formed
  congr 1 <;> (rw [decide_eq_decide]; omega)
set_option maxHeartbeats 1000000 in
theorem formed13 (x : Lt) (a : Option Addr) (c : Nat) : Calls Tryz.prog 74 #[Lv x a c] w fun e w' => e = .returned (.bool x.formed) ∧ Kept [] w w' := by
  have HF := Hid.mk x.formed_eq
  generalize x.formed = fb at HF
  go_enter Tryz.func74, Tryz.ntmps74
  go_wp2_with fail
  · go_ret
    refine ⟨?_, (Kept.refl [] w).alloc _⟩
    rw [HF.out _ _ rfl rfl]
    have h : ((x.fr.length : Int) ≤ 40) := by omega
    simp only [h, decide_true, Bool.true_and]
    rfl
  · go_ret
    refine ⟨?_, (Kept.refl [] w).alloc _⟩
    rw [HF.out _ _ rfl rfl]
    have h : ¬ ((x.fr.length : Int) ≤ 40) := by omega
    simp only [h, decide_false, Bool.false_and]
    rfl
set_option maxHeartbeats 1000000 in
theorem formed14 (x : Lt) (a : Option Addr) (c : Nat) : Calls Tryz.prog 78 #[Lv x a c] w fun e w' => e = .returned (.bool x.formed) ∧ Kept [] w w' := by
  have HF := Hid.mk x.formed_eq
  generalize x.formed = fb at HF
  go_enter Tryz.func78, Tryz.ntmps78
  go_wp2_with fail
  · go_ret
    refine ⟨?_, (Kept.refl [] w).alloc _⟩
    rw [HF.out _ _ rfl rfl]
    have h : ((x.fr.length : Int) ≤ 40) := by omega
    simp only [h, decide_true, Bool.true_and]
    rfl
  · go_ret
    refine ⟨?_, (Kept.refl [] w).alloc _⟩
    rw [HF.out _ _ rfl rfl]
    have h : ¬ ((x.fr.length : Int) ≤ 40) := by omega
    simp only [h, decide_false, Bool.false_and]
    rfl
end
end Go.Proofs.YtngnenbidpojeaaGreatDoor
/-
  Steps of a region by run equations; blocks of four cells. Over any program.
-/
namespace Go.Proofs.YtngnenbidpojeaaGreatDoor
set_option maxRecDepth 100000
open Go.RowKit
set_option linter.unusedVariables false
theorem Kept.cell_eq {w w' : World} (k : Kept [] w w') {p : Addr} {u : Value} (h : w.cell? p = some u) : w'.cell? p = some u := by
  rw [k.cell (World.block_lt_of_cell? _ _ h) (by simp)]
  exact h
section
variable {P : Program} {w : World}
theorem wpList_append_run {ops : Array Oper} {rest : List Oper} {o : Oper} {a : Act} {Q : Exit → Act → World → Prop} (t u : TypeId) (sl x : Operand)
    (ho : o.op = .call { callee := .builtin .append, args := #[sl, x], argTypes := #[t, u] }) (hgd : Region.wanted o (yielded ops a.tmps) = true) (v y : Value) (hs : a.eval sl = v) (hx : a.eval x = y) (r : Value) (w' : World) (hrun : (Builtin.append_ #[t, u] o.type #[v, y]).run P w = .ok r w')
    (h : wpList P ops Q rest (a.put o.dst r) w') : wpList P ops Q (o :: rest) a w := by
  refine wpList_step fun K hK => ?_
  rw [if_pos hgd]
  unfold Oper.wp execOp
  simp only [ho, resolve, invoke, builtin, Sem.run_bind, Sem.run_pure, Result.andThen_ok, List.map_toArray, List.map_cons, List.map_nil, hs, hx, hrun]
  exact hK _ _ h
theorem step_append_run {ops : Array Oper} {o : Oper} {a : Act} {Q : Exit → Act → World → Prop} (t : TypeId) (sl x : Operand) (ho : o.op = .call { callee := .builtin .append, args := #[sl, x], argTypes := #[t, t] }) (hg : o.guard = none) (v y : Value) (hs : a.eval sl = v) (hx : a.eval x = y) {K : Act → World → Prop} {E : Prop} {r : Value} {w' : World} (hrun : (Builtin.append_ #[t, t] o.type #[v, y]).run P w = .ok r w') (hK : K (a.put o.dst r) w') :
    if Region.wanted o (yielded ops a.tmps) = true then Oper.wp P o a w K Q else E := by
  have hw : Region.wanted o (yielded ops a.tmps) = true := by simp [Region.wanted, hg]
  rw [if_pos hw]
  unfold Oper.wp execOp
  simp only [ho, resolve, invoke, builtin, Sem.run_bind, Sem.run_pure, Result.andThen_ok, List.map_toArray, List.map_cons, List.map_nil, hs, hx, hrun]
  exact hK
variable {b : Nat} {v0 v1 v2 v3 x : Value} {t : TypeId}
theorem cells4 (h : w.heap[b]? = some (.cells #[v0, v1, v2, v3] t (0, 0))) : w.cell? ⟨b, 0, none⟩ = some v0 ∧ w.cell? ⟨b, 1, none⟩ = some v1 ∧ w.cell? ⟨b, 2, none⟩ = some v2 ∧ w.cell? ⟨b, 3, none⟩ = some v3 := by simp [World.cell?, h]
theorem free4 (h : w.heap[b]? = some (.cells #[v0, v1, v2, v3] t (0, 0))) : w.frozen? ⟨b, 0, none⟩ = false ∧ w.frozen? ⟨b, 1, none⟩ = false ∧ w.frozen? ⟨b, 2, none⟩ = false ∧ w.frozen? ⟨b, 3, none⟩ = false := by simp [World.frozen?, h]
theorem set_at {cs : Array Value} {fz : Nat × Nat} {k : Nat} (h : w.heap[b]? = some (.cells cs t fz)) : (w.setCell ⟨b, k, none⟩ x).heap[b]? = some (.cells (cs.setIfInBounds k x) t fz) := by
  have hlt := lt_of_block h
  have h' : w.heap[b] = .cells cs t fz := by simpa [Array.getElem?_eq_getElem hlt] using h
  show (w.heap.modify b _)[b]? = _
  rw [Array.getElem?_eq_getElem (by simpa using hlt), Array.getElem_modify_self, h']
  rfl
theorem set4_0 (h : w.heap[b]? = some (.cells #[v0, v1, v2, v3] t (0, 0))) : (w.setCell ⟨b, 0, none⟩ x).heap[b]? = some (.cells #[x, v1, v2, v3] t (0, 0)) := set_at h
theorem set4_1 (h : w.heap[b]? = some (.cells #[v0, v1, v2, v3] t (0, 0))) : (w.setCell ⟨b, 1, none⟩ x).heap[b]? = some (.cells #[v0, x, v2, v3] t (0, 0)) := set_at h
theorem set4_2 (h : w.heap[b]? = some (.cells #[v0, v1, v2, v3] t (0, 0))) : (w.setCell ⟨b, 2, none⟩ x).heap[b]? = some (.cells #[v0, v1, x, v3] t (0, 0)) := set_at h
theorem set4_3 (h : w.heap[b]? = some (.cells #[v0, v1, v2, v3] t (0, 0))) : (w.setCell ⟨b, 3, none⟩ x).heap[b]? = some (.cells #[v0, v1, v2, x] t (0, 0)) := set_at h
theorem setCell_other {k : Nat} (h : w.heap[b]? = w.heap[b]?) {c : Nat} (hc : c ≠ b) : (w.setCell ⟨b, k, none⟩ x).heap[c]? = w.heap[c]? := Below.heap_setCell w ⟨b, k, none⟩ x c (by exact hc)
theorem box1 (w : World) (o : Obj) : ∃ W, w.alloc o = W ∧ Kept [] w W ∧ W.heap.size = w.heap.size + 1 ∧ W.heap[w.heap.size]? = some o := ⟨_, rfl, (Kept.refl [] w).alloc _, by simp, heap_alloc_new w _⟩
theorem box2 (w : World) (o o' : Obj) : ∃ W, (w.alloc o).alloc o' = W ∧ Kept [] w W ∧ W.heap.size = w.heap.size + 2 ∧ W.heap[w.heap.size]? = some o ∧ W.heap[w.heap.size + 1]? = some o' := by
  refine ⟨_, rfl, ((Kept.refl [] w).alloc _).alloc _, by simp, ?_, ?_⟩
  · rw [Below.heap_alloc _ _ _ (by simp)]; exact heap_alloc_new w _
  · have := heap_alloc_new (w.alloc o) o'
    simpa using this
/-- A struct of four cells that is stored whole. -/
theorem put4 (h : w.heap[b]? = some (.cells #[v0, v1, v2, v3] t (0, 0))) (x0 x1 x2 x3 : Value) : ∃ W, (((w.setCell ⟨b, 0, none⟩ x0).setCell ⟨b, 1, none⟩ x1).setCell ⟨b, 2, none⟩ x2).setCell ⟨b, 3, none⟩ x3 = W ∧ Kept [b] w W ∧ W.heap[b]? = some (.cells #[x0, x1, x2, x3] t (0, 0)) ∧ W.heap.size = w.heap.size :=
  ⟨_, rfl, ((((Kept.refl [b] w).setCell (p := ⟨b, 0, none⟩) (.inl (by simp)) x0).setCell (p := ⟨b, 1, none⟩) (.inl (by simp)) x1).setCell (p := ⟨b, 2, none⟩) (.inl (by simp)) x2).setCell (p := ⟨b, 3, none⟩) (.inl (by simp)) x3, set4_3 (set4_2 (set4_1 (set4_0 h))), by simp⟩
theorem results_cell_row2 {fn : Func} {p u : Tmp} {ty : TypeId} (h : fn.results = #[.cell p ty, .tmp u]) (tmps : Array Value) (w : World) (g : Nat) (t : TypeId) (cs : Array Value) (fr : Nat × Nat) (d : TypeDesc)
    (hp : tmps.getD p undef = .pointer (some ⟨g, 0, none⟩)) (hg : w.heap[g]? = some (.cells cs t fr)) (hu : P.underlying ty = some d) (hd : (match d with | .struct _ | .array _ _ => true | _ => false) = true) (hi : (P.info? ty).map (·.size) = some cs.size) (r : Value) (hr : tmps.getD u undef = r) :
    (results fn tmps).run P w = .ok (.tuple #[.agg cs, r]) w := by
  have hp' : tmps[p]?.getD undef = .pointer (some ⟨g, 0, none⟩) := by simpa using hp
  have hr' : tmps[u]?.getD undef = r := by simpa using hr
  simp [results, h, hp', hr', asAddr, run_loadVar_row w g t ty cs fr d hg hu hd hi]
end
end Go.Proofs.YtngnenbidpojeaaGreatDoor
