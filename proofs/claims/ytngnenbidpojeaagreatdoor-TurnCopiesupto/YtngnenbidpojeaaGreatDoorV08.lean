import Derived.Test.YtngnenbidpojeaaGreatDoorV03
import Derived.Test.YtngnenbidpojeaaGreatDoorV04
import Derived.Test.YtngnenbidpojeaaGreatDoorV07
/-
  Outboxes, without memory: what a Send and a Pop leave.
-/
namespace Go.Proofs.YtngnenbidpojeaaGreatDoor
set_option maxRecDepth 100000
set_option linter.unusedVariables false
/-- A letter that is sent: the next serial to that key. -/
def sendO (o : Ob) (to : List UInt8) (kind : Int) (args : List Int) : Ob :=
  ⟨o.own, setK o.K to (ser o.K to + 1), o.L ++ [⟨to, ⟨o.own, ser o.K to + 1, kind, args⟩⟩]⟩
theorem GoodO.new {own : List UInt8} (h : isKey own = true) : GoodO ⟨own, [], []⟩ := ⟨h, by simp, by simp, by simp, by simp [Rise], by simp, rfl⟩
theorem ordR_none (k : List UInt8) : ∀ (A : List Ot) (s : Nat), (∀ y ∈ A, y.to ≠ k) → ordR k A s = true
  | [], s, _ => rfl
  | x :: A, s, h => by
    rw [ordR, if_neg (h x (by simp))]
    exact ordR_none k A s fun y hy => h y (by simp [hy])
theorem GoodO.send {o : Ob} (h : GoodO o) {to : List UInt8} {kind : Int} {args : List Int} (hto : isKey to = true) (hk : I64 kind) (ha : ∀ z ∈ args, I64 z) (h4 : args.length ≤ 4) (h32 : o.L.length < 32) (h64 : hasK o.K to = true ∨ o.K.length < 64) (hs : U64 (ser o.K to + 1)) : GoodO (sendO o to kind args) := by
  obtain ⟨own, K, L⟩ := o
  dsimp only at *
  have hown := (isKey_iff _).1 h.own
  have hrise := Rise.setK (to := to) (ser K to + 1) h.rise
  refine ⟨h.own, ?_, ?_, fun y hy => ?_, hrise, fun y hy => ?_, ?_⟩
  · show (setK K to (ser K to + 1)).length ≤ 64
    have := h.kn
    dsimp only at this
    rw [setK_length]
    split
    · exact this
    · rename_i hno
      rcases h64 with h | h
      · exact absurd h hno
      · omega
  · show (L ++ [_]).length ≤ 32
    simp
    omega
  · rcases setK_mem hy with rfl | hy
    · exact ⟨hto, by simp, hs⟩
    · exact h.key y hy
  · show y.x.ok ∧ y.x.formed = true ∧ y.x.fr = own ∧ hasK (setK K to (ser K to + 1)) y.to = true
    rcases List.mem_append.1 hy with hy | hy
    · obtain ⟨i1, i2, i3, i4⟩ := h.lets y hy
      refine ⟨i1, i2, i3, ?_⟩
      by_cases e : y.to = to
      · rw [e]; exact (ser_set_same K to _).2
      · rw [(ser_set_other _ h.rise e).2]; exact i4
    · simp at hy
      subst hy
      refine ⟨⟨hs, hk, ha⟩, ?_, rfl, (ser_set_same K to _).2⟩
      simp [Lt.formed, hown.2, h4]
  · show ordO (setK K to (ser K to + 1)) (L ++ [⟨to, ⟨own, ser K to + 1, kind, args⟩⟩]) = true
    have hord := h.ord
    unfold ordO at hord ⊢
    rw [List.all_eq_true] at hord ⊢
    intro y hy
    rw [List.reverse_append]
    show ordR y.k (⟨to, ⟨own, ser K to + 1, kind, args⟩⟩ :: L.reverse) y.s = true
    rw [ordR]
    dsimp only
    by_cases e : to = y.k
    · rw [if_pos e]
      have hys : y.s = ser K to + 1 := by
        have := ser_mem hrise hy
        rw [← e, (ser_set_same K to _).1] at this
        exact this.symm
      rw [hys]
      have hrest : ordR y.k L.reverse (ser K to) = true := by
        cases hh : hasK K to with
        | true =>
          obtain ⟨z, hz, hzk⟩ := (has_mem h.rise).1 hh
          have := hord z hz
          rw [← ser_mem h.rise hz, hzk] at this
          rw [← e]
          exact this
        | false =>
          refine ordR_none _ _ _ fun z hz e2 => ?_
          have := (h.lets z (by simpa using hz)).2.2.2
          rw [e2, ← e, hh] at this
          cases this
      simp [hrest]
    · rw [if_neg e]
      rcases setK_mem hy with rfl | hy
      · exact absurd rfl e
      · exact hord y hy
end Go.Proofs.YtngnenbidpojeaaGreatDoor
/-
  Letters: what a letter is, its bytes, the letter that bytes begin with; and letters in memory.
-/
namespace Go.Proofs.YtngnenbidpojeaaGreatDoor
open Go.RowKit
set_option linter.unusedVariables false
theorem rt28 : RowT 26 81 4 56 (.agg #[.string ⟨#[]⟩, .int .u64 0, .int .i64 0, .slice none 0 0]) := ⟨Tryz.underlying26, by kernel_rfl, rfl, by omega, by omega⟩
end Go.Proofs.YtngnenbidpojeaaGreatDoor
/-
  Pack, and the document's.
-/
namespace Go.Proofs.YtngnenbidpojeaaGreatDoor
open Go.RowKit
set_option linter.unusedVariables false
/-- Letters' bytes, one behind the other. -/
def encA (l : List Lq) : List UInt8 := l.flatMap fun q => encL q.x
def allF (l : List Lq) : Bool := l.all fun q => q.x.formed
def packB (l : List Lq) : List UInt8 := if allF l = true then enc l.length ++ encA l else []
def packE (l : List Lq) : Int := if allF l = true then 0 else 1
theorem encA_take (l : List Lq) (j : Nat) (q : Lq) (h : l[j]? = some q) : encA (l.take (j + 1)) = encA (l.take j) ++ encL q.x := by
  rw [List.take_add_one, h]
  simp [encA]
theorem encA_len (l : List Lq) (h : ∀ q ∈ l, q.x.formed = true) : (encA l).length ≤ 112 * l.length := by
  induction l with
  | nil => simp [encA]
  | cons q l ih =>
    have h1 := encL_length q.x
    have h2 := formed_le (h q (by simp))
    have h3 := ih (fun y hy => h y (by simp [hy]))
    have e : encA (q :: l) = encL q.x ++ encA l := rfl
    rw [e, List.length_append, List.length_cons]
    omega
theorem take_mem {l : List Lq} {j : Nat} {q : Lq} (h : l[j]? = some q) {P : Lq → Prop} (hp : ∀ y ∈ l.take j, P y) (hq : P q) : ∀ y ∈ l.take (j + 1), P y := by
  intro y hy
  rw [List.take_add_one, h] at hy
  rcases List.mem_append.1 hy with hy | hy
  · exact hp y hy
  · simp at hy; subst hy; exact hq
section
variable {w : World}
set_option maxRecDepth 100000 in
set_option maxHeartbeats 1000000 in
theorem pack20 {a : Option Addr} {n c : Nat} {l : List Lq} (hr : RowQ w (.slice a n c) l) (hv : ValsQ w l) (hok : ∀ q ∈ l, q.x.ok) (hl : n ≤ 1000000) :
    Calls Tryz.prog 62 #[.slice a n c] w fun e w' => TwoB w (packB l) (packE l) e w' := by
  obtain ⟨hn, hc1, hc2⟩ := hr.bound
  have HN := Hid.mk hn
  have HR := Hid.mk hr
  have HV := Hid.mk hv
  clear hr hn hv
  have hel := enc_length n
  have HY : Hid ((∀ q ∈ l, q.x.formed = true) → packB l = enc n ++ encA l ∧ packE l = 0) := fun h => by
    have : allF l = true := by unfold allF; rw [List.all_eq_true]; exact h
    unfold packB packE
    rw [if_pos this, if_pos this, HN.out]
    exact ⟨rfl, rfl⟩
  have HO : Hid (∀ q ∈ l, q.x.formed = false → packB l = [] ∧ packE l = 1) := fun q hq h => by
    have : ¬ allF l = true := by unfold allF; rw [List.all_eq_true]; intro h2; have := h2 q hq; rw [h] at this; cases this
    unfold packB packE
    rw [if_neg this, if_neg this]
    exact ⟨rfl, rfl⟩
  generalize packB l = PB at HY HO
  generalize packE l = PE at HY HO
  go_enter Tryz.func62, Tryz.ntmps62
  go_wp2_with fail
  refine (newW _).mono ?_
  rintro e w1 ⟨p, rfl, hW1, k1, hp1⟩
  go_wp2_with fail
  refine (wnum_any p _ [] n _ hW1 (by omega) (by simp)).mono ?_
  rintro e w2 ⟨rfl, v2, hW2, k2, n2⟩
  rw [List.nil_append] at hW2
  rw [foot_nil] at k2
  have k02 : Kept [] w w2 := k1.trans k2 (by simp; omega)
  have hf2 : Fresh w v2 := fun g hg => by have := new_nil n2 g hg; have := k1.size; omega
  go_wp2_with fail
  have HK := Hid.mk hok
  clear k1 hW1 k2 n2 hok
  go_loopw [15] (fun i wr => ∃ (j : Nat) (v' : Value), i = .int .i64 (j : Int) ∧ j ≤ n ∧ Hid (∀ q ∈ l.take j, q.x.formed = true) ∧ Hid (IsW 205 5 wr p v' (enc n ++ encA (l.take j))) ∧ Hid (Kept [] w wr) ∧ Hid (Fresh w v')) (fun i _ => n - (intOf i).toNat)
  case atStart => exact ⟨0, v2, rfl, by omega, Hid.mk (by simp), Hid.mk (by simpa [encA] using hW2), Hid.mk k02, Hid.mk hf2⟩
  case round =>
    obtain ⟨j, v', rfl, hj, hall, hW, kk, hf⟩ := hrel
    by_cases hlt : j < n
    · obtain ⟨q, hq⟩ : ∃ q, l[j]? = some q := ⟨_, List.getElem?_eq_getElem (by have := HN.out; omega)⟩
      have hmem := List.mem_of_getElem? hq
      obtain ⟨b, o, rfl, d0, d1, d2, d3⟩ := (HR.out.kept kk.out (by simp)).at hq
      have hjI : (j : Int) < (n : Int) := by omega
      have HQ := Hid.mk hq
      have HM := Hid.mk hmem
      clear hq hmem
      go_wp2_with fail
      obtain ⟨W0, e0, k0, hz0, hb0⟩ := box1 wr (.cells #[Sv q.x.fr, .int .u64 (q.x.ser : Int), .int .i64 q.x.kind, .slice q.ad q.x.args.length q.cap] 81)
      rw [e0]
      clear e0 d0 d1 d2 d3
      refine (formed13 q.x q.ad q.cap).mono ?_
      rintro e w3 ⟨rfl, k3⟩
      have k03 := (kk.out.trans k0 (by simp)).trans k3 (by simp)
      cases hfm : q.x.formed with
      | false =>
        obtain ⟨rfl, rfl⟩ := HO.out q HM.out hfm
        go_wp2_with fail
        go_ret2
        exact ⟨_, rfl, Owns.nil 5 _, k03, fresh_nil w 0⟩
      | true =>
        have hfl := formed_le hfm
        have HFM := Hid.mk hfm
        clear hfm
        have hb3 := k3.keeps hb0 (by simp)
        obtain ⟨c0, c1, c2, c3⟩ := cells4 hb3
        have hW3 := (hW.out.kept k0 (by simp) (by simp)).kept k3 (by simp) (by simp)
        have hR3 := (HV.out q HM.out).kept k03 (by simp)
        have hlen := encA_len _ hall.out
        rw [List.length_take] at hlen
        go_wp2_with fail
        refine (lay27 p v' _ q.x q.ad q.cap hW3 hR3 (fun hne g hg hm => ?_) (HK.out q HM.out) (by simp only [List.length_append]; omega)).mono ?_
        · have := (HV.out q HM.out).ltg hne hg
          rcases mem_foot.1 hm with h | h
          · omega
          · have := hf.out g h; omega
        rintro e w4 ⟨rfl, v4, hW4, k4, n4⟩
        have k04 : Kept [] w w4 := k03.trans k4 (fun y hy => by
          rcases mem_foot.1 hy with h | h
          · exact .inr (by omega)
          · exact .inr (hf.out y h))
        have hf4 : Fresh w v4 := fun g hg => by
          rcases n4 g hg with h | h
          · exact hf.out g h
          · have := k03.size; omega
        go_wp2_with fail
        go_roundw
        case rel =>
          refine ⟨j + 1, v4, by go_num, by omega, Hid.mk (take_mem HQ.out hall.out HFM.out), Hid.mk ?_, Hid.mk k04, Hid.mk hf4⟩
          rw [encA_take _ _ _ HQ.out, ← List.append_assoc]
          exact hW4
        case measure => simp [intOf]; omega
    · obtain rfl : j = n := by omega
      have hall' : ∀ q ∈ l, q.x.formed = true := by have := hall.out; rwa [HN.out, List.take_length] at this
      obtain ⟨rfl, rfl⟩ := HY.out hall'
      have hlen := encA_len l hall'
      rw [← HN.out] at hlen
      have hW' := hW.out
      rw [show l.take j = l by rw [HN.out, List.take_length]] at hW'
      go_wp2_with fail
      refine (wbytes_any p _ _ _ hW' (by simp only [List.length_append]; omega)).mono ?_
      rintro e w4 ⟨v4, rfl, hO4, k4, hF4⟩
      go_wp2_with fail
      go_ret2
      exact ⟨v4, rfl, hO4, kk.out.trans k4 (by simp), fun g hg => by have := hF4 g hg; have := kk.out.size; omega⟩
end
end Go.Proofs.YtngnenbidpojeaaGreatDoor
/-
  Lists of letters as bytes: what Unpack reads. No program.
-/
namespace Go.Proofs.YtngnenbidpojeaaGreatDoor
open Go.RowKit
set_option linter.unusedVariables false
/-- j letters that bytes begin with, what is left, and whether all was there; none, if one of them isn't there. -/
def rlN_I : Nat → List UInt8 → Bool → Option (List Lt × List UInt8 × Bool)
  | 0, l, b => some ([], l, b)
  | j + 1, l, b => (rlN_I j l b).bind fun r => (rlet r.2.1 r.2.2).1.map fun x => (r.1 ++ [x], (rlet r.2.1 r.2.2).2.1, (rlet r.2.1 r.2.2).2.2)
/-- The list that bytes are. -/
def decP (l : List UInt8) : Option (List Lt) :=
  (rlN_I (rnum l false).1 (rnum l false).2.1 (rnum l false).2.2).bind fun r => if (!r.2.2 && r.2.1.isEmpty) = true then some r.1 else none
theorem rlet_some {l : List UInt8} {b : Bool} {x : Lt} (h : (rlet l b).1 = some x) : (rlet l b).2.2 = false := by
  unfold rlet at h ⊢
  dsimp only at h ⊢
  split at h
  · cases h
  · split at h
    · cases h
    · rename_i h1 h2
      rw [if_neg h1, if_neg h2]
      simp at h2
      exact h2.1
theorem encL_four (x : Lt) : 4 ≤ (encL x).length := by
  have h1 := enc_length x.fr.length
  have h2 := enc_length x.ser
  have h3 := enc_length (fold x.kind)
  have h4 := enc_length x.args.length
  simp only [encL, List.length_append]
  omega
theorem rlN_stop {j : Nat} {l : List UInt8} {b : Bool} (h : rlN_I j l b = none) : ∀ n, j ≤ n → rlN_I n l b = none := by
  intro n hn
  induction n with
  | zero =>
    have : j = 0 := by omega
    subst this
    exact h
  | succ n ih =>
    rcases Nat.eq_or_lt_of_le hn with h1 | h1
    · subst h1; exact h
    · simp only [rlN_I, ih (by omega), Option.bind_none]
theorem rlN_none {j : Nat} {l : List UInt8} {b : Bool} {r : List Lt × List UInt8 × Bool} (h : rlN_I j l b = some r) (hx : (rlet r.2.1 r.2.2).1 = none) : rlN_I (j + 1) l b = none := by
  simp only [rlN_I, h, Option.bind_some, hx, Option.map_none]
theorem rlN_next {j : Nat} {l : List UInt8} {b : Bool} {r : List Lt × List UInt8 × Bool} (h : rlN_I j l b = some r) {x : Lt} (hx : (rlet r.2.1 r.2.2).1 = some x) : rlN_I (j + 1) l b = some (r.1 ++ [x], (rlet r.2.1 r.2.2).2.1, (rlet r.2.1 r.2.2).2.2) := by
  simp only [rlN_I, h, Option.bind_some, hx, Option.map_some]
/-- Letters' bytes. -/
def encT (l : List Lt) : List UInt8 := l.flatMap encL
theorem rlN_fwd (j : Nat) : ∀ {l : List UInt8} {b : Bool} {r : List Lt × List UInt8 × Bool}, rlN_I j l b = some r → r.1.length = j ∧ l = encT r.1 ++ r.2.1 ∧ (0 < j → r.2.2 = false ∧ b = false) ∧ (j = 0 → r.2.2 = b) ∧ (∀ x ∈ r.1, x.ok ∧ x.formed = true) := by
  induction j with
  | zero => intro l b r h; cases h; exact ⟨rfl, rfl, by omega, fun _ => rfl, by simp⟩
  | succ j ih =>
    intro l b r h
    simp only [rlN_I, Option.bind_eq_some_iff, Option.map_eq_some_iff] at h
    obtain ⟨s, hs, x, hx, rfl⟩ := h
    obtain ⟨h1, h2, h3, h4, h5⟩ := ih hs
    have hb := rlet_some hx
    have he := rlet_fwd (l := s.2.1) (bad := s.2.2) (x := x) (rest := (rlet s.2.1 s.2.2).2.1) (by
      rw [← hx, ← hb])
    refine ⟨by simp [h1], ?_, fun _ => ⟨hb, ?_⟩, by omega, ?_⟩
    · have e1 : encT (s.1 ++ [x]) = encT s.1 ++ encL x := by simp [encT]
      dsimp only
      rw [e1, List.append_assoc, ← he.2]
      exact h2
    · rcases Nat.eq_zero_or_pos j with h | h
      · rw [← h4 h]; exact he.1
      · exact (h3 h).2
    · intro y hy
      simp at hy
      rcases hy with hy | rfl
      · exact h5 y hy
      · exact rlet_ok hx
theorem encT_len (l : List Lt) : 4 * l.length ≤ (encT l).length := by
  induction l with
  | nil => simp
  | cons x l ih =>
    have := encL_four x
    have e : encT (x :: l) = encL x ++ encT l := rfl
    rw [e, List.length_append, List.length_cons]
    omega
theorem rlN_len {j : Nat} {l : List UInt8} {b : Bool} {r : List Lt × List UInt8 × Bool} (h : rlN_I j l b = some r) : 4 * j ≤ l.length := by
  obtain ⟨h1, h2, -⟩ := rlN_fwd j h
  have := encT_len r.1
  have := congrArg List.length h2
  rw [List.length_append] at this
  omega
theorem rnum_rest_I (l : List UInt8) (b : Bool) : (rnum l b).2.1.length ≤ l.length := by
  unfold rnum
  split
  · simp
  · simp
/-- What was packed is unpacked as it was. -/
theorem rlN_back (l : List Lt) (hl : ∀ x ∈ l, x.ok ∧ x.formed = true) : ∀ rest, rlN_I l.length (encT l ++ rest) false = some (l, rest, false) := by
  suffices h : ∀ j, j ≤ l.length → ∀ rest, rlN_I j (encT l ++ rest) false = some (l.take j, encT (l.drop j) ++ rest, false) by
    intro rest
    have := h l.length (Nat.le_refl _) rest
    simpa [encT] using this
  intro j
  induction j with
  | zero => intro _ rest; simp [rlN_I]
  | succ j ih =>
    intro hj rest
    have hlt : j < l.length := by omega
    have hx := hl l[j] (List.getElem_mem hlt)
    have e : encT (l.drop j) = encL l[j] ++ encT (l.drop (j + 1)) := by
      rw [List.drop_eq_getElem_cons hlt]
      rfl
    have hb := rlet_back l[j] hx.1 hx.2 (encT (l.drop (j + 1)) ++ rest)
    simp only [rlN_I, ih (by omega) rest, Option.bind_some]
    rw [e, List.append_assoc, hb]
    simp only [Option.map_some, Option.some.injEq, Prod.mk.injEq, and_true]
    rw [List.take_add_one, List.getElem?_eq_getElem hlt]
    rfl
theorem decP_ok {l : List UInt8} {xs : List Lt} (h : decP l = some xs) : ∀ x ∈ xs, x.ok ∧ x.formed = true := by
  unfold decP at h
  cases hr : rlN_I (rnum l false).1 (rnum l false).2.1 (rnum l false).2.2 with
  | none => rw [hr] at h; cases h
  | some r =>
    rw [hr] at h
    simp only [Option.bind_some] at h
    split at h
    · cases h
      exact (rlN_fwd _ hr).2.2.2.2
    · cases h
end Go.Proofs.YtngnenbidpojeaaGreatDoor
/-
  Journals, without memory: registers, events, a journal's bytes.
-/
namespace Go.Proofs.YtngnenbidpojeaaGreatDoor
set_option linter.unusedVariables false
/-- An event: a register is set. -/
structure Ev where
  r : Nat
  v : Int
instance : Inhabited Ev := ⟨⟨0, 0⟩⟩
/-- A journal. -/
structure Jn where
  base : List Int
  ev : List Ev
  ver : Nat
/-- An event is done. -/
def doE (b : List Int) (e : Ev) : List Int := b.set e.r e.v
/-- All are, in order. -/
def doA (b : List Int) (l : List Ev) : List Int := l.foldl doE b
def stJ (j : Jn) : List Int := doA j.base j.ev
def newJ : Jn := ⟨List.replicate 8 0, [], 0⟩
/-- The first event is done to the base, and gone. -/
def dropJ (j : Jn) : Jn := match j.ev with
  | [] => j
  | e :: t => ⟨doE j.base e, t, j.ver⟩
/-- One event more. -/
def addE (j : Jn) (e : Ev) : Jn := if 16 < j.ev.length + 1 then dropJ ⟨j.base, j.ev ++ [e], j.ver + 1⟩ else ⟨j.base, j.ev ++ [e], j.ver + 1⟩
def addA (j : Jn) (l : List Ev) : Jn := l.foldl addE j
def foldJ (j : Jn) : Jn := ⟨stJ j, [], j.ver⟩
theorem doA_append (b : List Int) (l m : List Ev) : doA b (l ++ m) = doA (doA b l) m := by simp [doA]
theorem doA_length (l : List Ev) : ∀ b, (doA b l).length = b.length := by
  induction l with
  | nil => intro b; rfl
  | cons e l ih => intro b; show (doA (doE b e) l).length = _; rw [ih]; simp [doE]
theorem ver_add (j : Jn) (e : Ev) : (addE j e).ver = j.ver + 1 := by
  unfold addE dropJ
  dsimp only
  split
  · split <;> rfl
  · rfl
theorem ver_addA (l : List Ev) : ∀ j, (addA j l).ver = j.ver + l.length := by
  induction l with
  | nil => intro j; rfl
  | cons e l ih =>
    intro j
    show (addA (addE j e) l).ver = _
    rw [ih, ver_add, List.length_cons]
    omega
theorem addA_append (j : Jn) (l m : List Ev) : addA j (l ++ m) = addA (addA j l) m := by simp [addA]
/-- A journal may be. -/
structure GoodJ (j : Jn) : Prop where
  b8 : j.base.length = 8
  b64 : ∀ z ∈ j.base, I64 z
  e16 : j.ev.length ≤ 16
  ev : ∀ e ∈ j.ev, e.r ≤ 7 ∧ I64 e.v
  low : j.ev.length ≤ j.ver
  v64 : U64 j.ver
theorem GoodJ.new : GoodJ newJ := ⟨rfl, fun z hz => by rw [List.eq_of_mem_replicate hz]; unfold I64; omega, by simp [newJ], by simp [newJ], by simp [newJ], by unfold U64; simp [newJ]⟩
theorem doE_I64 {b : List Int} {e : Ev} (h : ∀ z ∈ b, I64 z) (he : I64 e.v) : ∀ z ∈ doE b e, I64 z := fun z hz => by
  rcases List.mem_or_eq_of_mem_set hz with h1 | h1
  · exact h z h1
  · rw [h1]; exact he
theorem doA_I64 (l : List Ev) : ∀ b, (∀ z ∈ b, I64 z) → (∀ e ∈ l, I64 e.v) → ∀ z ∈ doA b l, I64 z := by
  induction l with
  | nil => intro b h _; exact h
  | cons e l ih => intro b h he; exact ih (doE b e) (doE_I64 h (he e (by simp))) fun x hx => he x (by simp [hx])
theorem GoodJ.add {j : Jn} (h : GoodJ j) {e : Ev} (he : e.r ≤ 7 ∧ I64 e.v) (hv : U64 (j.ver + 1)) : GoodJ (addE j e) := by
  obtain ⟨b, ev, v⟩ := j
  have h1 := h.e16
  have h2 := h.low
  dsimp only at h1 h2 hv
  have hev : ∀ x ∈ ev ++ [e], x.r ≤ 7 ∧ I64 x.v := fun x hx => by
    rcases List.mem_append.1 hx with hx | hx
    · exact h.ev x hx
    · simp at hx; subst hx; exact he
  unfold addE
  dsimp only
  split
  · cases ev with
    | nil => simp at *
    | cons x t =>
      have hx := hev x (by simp)
      refine ⟨?_, ?_, ?_, fun y hy => hev y (List.mem_cons_of_mem x (show y ∈ t ++ [e] from hy)), ?_, hv⟩
      · show (doE b x).length = 8
        have := h.b8
        dsimp only at this
        simp [doE, this]
      · exact doE_I64 h.b64 hx.2
      · show (t ++ [e]).length ≤ 16
        simp at h1 ⊢
        omega
      · show (t ++ [e]).length ≤ v + 1
        simp at h2 ⊢
        omega
  · refine ⟨h.b8, h.b64, ?_, hev, ?_, hv⟩
    · show (ev ++ [e]).length ≤ 16
      simp
      omega
    · show (ev ++ [e]).length ≤ v + 1
      simp
      omega
theorem GoodJ.addA {l : List Ev} : ∀ {j : Jn}, GoodJ j → (∀ e ∈ l, e.r ≤ 7 ∧ I64 e.v) → U64 (j.ver + l.length) → GoodJ (addA j l) := by
  induction l with
  | nil => intro j h _ _; exact h
  | cons e l ih =>
    intro j h he hv
    rw [List.length_cons] at hv
    refine ih (h.add (he e (by simp)) (by unfold U64 at *; omega)) (fun x hx => he x (by simp [hx])) ?_
    rw [ver_add]
    unfold U64 at *
    omega
theorem GoodJ.fold {j : Jn} (h : GoodJ j) : GoodJ (foldJ j) :=
  ⟨by show (doA j.base j.ev).length = 8; rw [doA_length]; exact h.b8, doA_I64 j.ev j.base h.b64 fun e he => (h.ev e he).2, by simp [foldJ], by simp [foldJ], by simp [foldJ], h.v64⟩
/-- Integers' bytes. -/
def encI (l : List Int) : List UInt8 := l.flatMap fun z => enc (fold z)
def encV (l : List Ev) : List UInt8 := l.flatMap fun e => enc e.r ++ enc (fold e.v)
/-- A journal's bytes. -/
def encJn (j : Jn) : List UInt8 := enc j.ver ++ (encI j.base ++ (enc j.ev.length ++ encV j.ev))
/-- n integers. -/
def rint : Nat → List UInt8 → Option (List Int × List UInt8)
  | 0, l => some ([], l)
  | n + 1, l => (int l).bind fun a => (rint n a.2).map fun b => (a.1 :: b.1, b.2)
/-- n events. -/
def revs : Nat → List Ev → List UInt8 → Option (List Ev × List UInt8)
  | 0, E, l => some (E, l)
  | n + 1, E, l => (num l).bind fun a => (int a.2).bind fun b => if 7 < a.1 then none else revs n (E ++ [⟨a.1, b.1⟩]) b.2
/-- The journal that bytes are. -/
def decJn (l : List UInt8) : Option Jn := (num l).bind fun a => (rint 8 a.2).bind fun b => (num b.2).bind fun c => if 16 < c.1 ∨ a.1 < c.1 then none else (revs c.1 [] c.2).bind fun d => if d.2 = [] then some ⟨b.1, d.1, a.1⟩ else none
theorem rint_back (a : List Int) : ∀ r, (∀ z ∈ a, I64 z) → rint a.length (encI a ++ r) = some (a, r) := by
  induction a with
  | nil => intro r _; rfl
  | cons z a ih =>
    intro r h
    have e : encI (z :: a) ++ r = enc (fold z) ++ (encI a ++ r) := by simp [encI]
    rw [List.length_cons, rint, e, int_back z (h z (by simp))]
    dsimp only [Option.bind_some]
    rw [ih r (fun y hy => h y (by simp [hy]))]
    rfl
theorem rint_fwd (n : Nat) : ∀ l a r, rint n l = some (a, r) → a.length = n ∧ l = encI a ++ r ∧ ∀ z ∈ a, I64 z := by
  induction n with
  | zero =>
    intro l a r h
    simp only [rint, Option.some.injEq, Prod.mk.injEq] at h
    obtain ⟨rfl, rfl⟩ := h
    exact ⟨rfl, rfl, by simp⟩
  | succ n ih =>
    intro l a r h
    rw [rint] at h
    cases h1 : int l with
    | none => rw [h1] at h; cases h
    | some x =>
      obtain ⟨z, l1⟩ := x
      rw [h1] at h
      dsimp only [Option.bind_some] at h
      cases h2 : rint n l1 with
      | none => rw [h2] at h; cases h
      | some y =>
        obtain ⟨b, q⟩ := y
        rw [h2] at h
        simp only [Option.map_some, Option.some.injEq, Prod.mk.injEq] at h
        obtain ⟨rfl, rfl⟩ := h
        obtain ⟨i1, i2, i3⟩ := ih l1 b q h2
        refine ⟨by simp [i1], ?_, fun w hw => ?_⟩
        · rw [int_fwd h1, i2]; simp [encI]
        · rcases List.mem_cons.1 hw with rfl | hw
          · exact (int_some h1).2.2
          · exact i3 w hw
theorem revs_back (X : List Ev) : ∀ P r, (∀ e ∈ X, e.r ≤ 7 ∧ I64 e.v) → revs X.length P (encV X ++ r) = some (P ++ X, r) := by
  induction X with
  | nil => intro P r _; simp [revs, encV]
  | cons x X ih =>
    intro P r h
    have hx := h x (by simp)
    have e : encV (x :: X) ++ r = enc x.r ++ (enc (fold x.v) ++ (encV X ++ r)) := by simp [encV]
    rw [List.length_cons, revs, e, num_back x.r (by unfold U64; omega)]
    dsimp only [Option.bind_some]
    rw [int_back x.v hx.2]
    dsimp only [Option.bind_some]
    rw [if_neg (by omega), ih (P ++ [x]) r (fun y hy => h y (by simp [hy]))]
    simp
theorem revs_fwd (n : Nat) : ∀ P l E r, revs n P l = some (E, r) → ∃ X, X.length = n ∧ E = P ++ X ∧ l = encV X ++ r ∧ ∀ e ∈ X, e.r ≤ 7 ∧ I64 e.v := by
  induction n with
  | zero =>
    intro P l E r h
    simp only [revs, Option.some.injEq, Prod.mk.injEq] at h
    obtain ⟨rfl, rfl⟩ := h
    exact ⟨[], rfl, by simp, by simp [encV], by simp⟩
  | succ n ih =>
    intro P l E r h
    rw [revs] at h
    cases h1 : num l with
    | none => rw [h1] at h; cases h
    | some a =>
      obtain ⟨k, l1⟩ := a
      rw [h1] at h
      dsimp only [Option.bind_some] at h
      cases h2 : int l1 with
      | none => rw [h2] at h; cases h
      | some b =>
        obtain ⟨v, l2⟩ := b
        rw [h2] at h
        dsimp only [Option.bind_some] at h
        split at h
        · cases h
        · rename_i hk
          obtain ⟨X, h4, h5, h6, h7⟩ := ih (P ++ [⟨k, v⟩]) l2 E r h
          refine ⟨⟨k, v⟩ :: X, by simp [h4], by rw [h5]; simp, ?_, fun y hy => ?_⟩
          · rw [num_fwd h1, int_fwd h2, h6]; simp [encV]
          · rcases List.mem_cons.1 hy with rfl | hy
            · exact ⟨by show k ≤ 7; omega, (int_some h2).2.2⟩
            · exact h7 y hy
theorem decJn_back {j : Jn} (h : GoodJ j) : decJn (encJn j) = some j := by
  obtain ⟨b, ev, v⟩ := j
  have h1 := h.b8
  have h2 := h.e16
  have h3 := h.low
  dsimp only at h1 h2 h3
  have hr1 := rint_back b (enc ev.length ++ encV ev) h.b64
  have hr2 := revs_back ev [] [] h.ev
  rw [List.append_nil, List.nil_append] at hr2
  rw [h1] at hr1
  unfold decJn encJn
  dsimp only
  rw [num_back v h.v64]
  dsimp only [Option.bind_some]
  rw [hr1]
  dsimp only [Option.bind_some]
  rw [num_back ev.length (by unfold U64; omega)]
  dsimp only [Option.bind_some]
  rw [if_neg (by omega), hr2]
  rfl
theorem decJn_fwd {l : List UInt8} {j : Jn} (h : decJn l = some j) : encJn j = l ∧ GoodJ j := by
  unfold decJn at h
  cases h1 : num l with
  | none => rw [h1] at h; cases h
  | some a =>
    obtain ⟨v, l1⟩ := a
    rw [h1] at h
    dsimp only [Option.bind_some] at h
    cases h2 : rint 8 l1 with
    | none => rw [h2] at h; cases h
    | some b =>
      obtain ⟨base, l2⟩ := b
      rw [h2] at h
      dsimp only [Option.bind_some] at h
      cases h3 : num l2 with
      | none => rw [h3] at h; cases h
      | some c =>
        obtain ⟨n, l3⟩ := c
        rw [h3] at h
        dsimp only [Option.bind_some] at h
        split at h
        · cases h
        · rename_i hno
          cases h4 : revs n [] l3 with
          | none => rw [h4] at h; cases h
          | some d =>
            obtain ⟨E, r⟩ := d
            rw [h4] at h
            dsimp only [Option.bind_some] at h
            split at h
            · rename_i hr
              simp only [Option.some.injEq] at h
              subst h hr
              obtain ⟨i1, i2, i3⟩ := rint_fwd 8 l1 base l2 h2
              obtain ⟨X, x1, x2, x3, x4⟩ := revs_fwd n [] l3 E [] h4
              rw [List.nil_append] at x2
              subst x2
              rw [List.append_nil] at x3
              refine ⟨?_, i1, i3, by show E.length ≤ 16; omega, x4, by show E.length ≤ v; omega, num_lt h1⟩
              unfold encJn
              dsimp only
              rw [num_fwd h1, i2, num_fwd h3, x3, x1]
            · cases h
end Go.Proofs.YtngnenbidpojeaaGreatDoor
