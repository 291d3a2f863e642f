import Derived.Deep.RegionHeld3
import Derived.Laws.Rows
import Derived.Laws.CopyRow
import Derived.Test.YtngnenbidpojeaaDoorW03
import Derived.Test.YtngnenbidpojeaaDoorW04
import Derived.Test.YtngnenbidpojeaaDoorW07
import Derived.Test.YtngnenbidpojeaaDoorW08
/-
  Pack, and the document's.
-/
namespace Go.Proofs.YtngnenbidpojeaaDoor
open Go.RowKit
set_option linter.unusedVariables false
/-- Letters' bytes, one behind the other. -/
def encA (l : List Lq) : List UInt8 := l.flatMap fun q => encL q.x
def allF (l : List Lq) : Bool := l.all fun q => q.x.formed
def packB (l : List Lq) : List UInt8 := if allF l = true then enc l.length ++ encA l else []
def packE (l : List Lq) : Int := if allF l = true then 0 else 1
theorem encA_take (l : List Lq) (j : Nat) (q : Lq) (h : l[j]? = some q) : encA (l.take (j + 1)) = encA (l.take j) ++ encL q.x := by
  rw [List.take_add_one, h]
  simp [encA]
theorem encA_len (l : List Lq) (h : ∀ q ∈ l, q.x.formed = true) : (encA l).length ≤ 112 * l.length := by
  induction l with
  | nil => simp [encA]
  | cons q l ih =>
    have h1 := encL_length q.x
    have h2 := formed_le (h q (by simp))
    have h3 := ih (fun y hy => h y (by simp [hy]))
    have e : encA (q :: l) = encL q.x ++ encA l := rfl
    rw [e, List.length_append, List.length_cons]
    omega
theorem take_mem {l : List Lq} {j : Nat} {q : Lq} (h : l[j]? = some q) {P : Lq → Prop} (hp : ∀ y ∈ l.take j, P y) (hq : P q) : ∀ y ∈ l.take (j + 1), P y := by
  intro y hy
  rw [List.take_add_one, h] at hy
  rcases List.mem_append.1 hy with hy | hy
  · exact hp y hy
  · simp at hy; subst hy; exact hq
section
variable {w : World}
set_option maxRecDepth 100000 in
set_option maxHeartbeats 1000000 in
theorem pack20 {a : Option Addr} {n c : Nat} {l : List Lq} (hr : RowQ w (.slice a n c) l) (hv : ValsQ w l) (hok : ∀ q ∈ l, q.x.ok) (hl : n ≤ 1000000) :
    Calls Tryd.prog 50 #[.slice a n c] w fun e w' => TwoB w (packB l) (packE l) e w' := by
  obtain ⟨hn, hc1, hc2⟩ := hr.bound
  have HN := Hid.mk hn
  have HR := Hid.mk hr
  have HV := Hid.mk hv
  clear hr hn hv
  have hel := enc_length n
  have HY : Hid ((∀ q ∈ l, q.x.formed = true) → packB l = enc n ++ encA l ∧ packE l = 0) := fun h => by
    have : allF l = true := by unfold allF; rw [List.all_eq_true]; exact h
    unfold packB packE
    rw [if_pos this, if_pos this, HN.out]
    exact ⟨rfl, rfl⟩
  have HO : Hid (∀ q ∈ l, q.x.formed = false → packB l = [] ∧ packE l = 1) := fun q hq h => by
    have : ¬ allF l = true := by unfold allF; rw [List.all_eq_true]; intro h2; have := h2 q hq; rw [h] at this; cases this
    unfold packB packE
    rw [if_neg this, if_neg this]
    exact ⟨rfl, rfl⟩
  generalize packB l = PB at HY HO
  generalize packE l = PE at HY HO
  go_enter Tryd.func50, Tryd.ntmps50
  go_wp2_with fail
  refine (newW _).mono ?_
  rintro e w1 ⟨p, rfl, hW1, k1, hp1⟩
  go_wp2_with fail
  refine (wnum_any p _ [] n _ hW1 (by omega) (by simp)).mono ?_
  rintro e w2 ⟨rfl, v2, hW2, k2, n2⟩
  rw [List.nil_append] at hW2
  rw [foot_nil] at k2
  have k02 : Kept [] w w2 := k1.trans k2 (by simp; omega)
  have hf2 : Fresh w v2 := fun g hg => by have := new_nil n2 g hg; have := k1.size; omega
  go_wp2_with fail
  have HK := Hid.mk hok
  clear k1 hW1 k2 n2 hok
  go_loopw [15] (fun i wr => ∃ (j : Nat) (v' : Value), i = .int .i64 (j : Int) ∧ j ≤ n ∧ Hid (∀ q ∈ l.take j, q.x.formed = true) ∧ Hid (IsW 145 5 wr p v' (enc n ++ encA (l.take j))) ∧ Hid (Kept [] w wr) ∧ Hid (Fresh w v')) (fun i _ => n - (intOf i).toNat)
  case atStart => exact ⟨0, v2, rfl, by omega, Hid.mk (by simp), Hid.mk (by simpa [encA] using hW2), Hid.mk k02, Hid.mk hf2⟩
  case round =>
    obtain ⟨j, v', rfl, hj, hall, hW, kk, hf⟩ := hrel
    by_cases hlt : j < n
    · obtain ⟨q, hq⟩ : ∃ q, l[j]? = some q := ⟨_, List.getElem?_eq_getElem (by have := HN.out; omega)⟩
      have hmem := List.mem_of_getElem? hq
      obtain ⟨b, o, rfl, d0, d1, d2, d3⟩ := (HR.out.kept kk.out (by simp)).at hq
      have hjI : (j : Int) < (n : Int) := by omega
      have HQ := Hid.mk hq
      have HM := Hid.mk hmem
      clear hq hmem
      go_wp2_with fail
      obtain ⟨W0, e0, k0, hz0, hb0⟩ := box1 wr (.cells #[Sv q.x.fr, .int .u64 (q.x.ser : Int), .int .i64 q.x.kind, .slice q.ad q.x.args.length q.cap] 25)
      rw [e0]
      clear e0 d0 d1 d2 d3
      refine (formed13 q.x q.ad q.cap).mono ?_
      rintro e w3 ⟨rfl, k3⟩
      have k03 := (kk.out.trans k0 (by simp)).trans k3 (by simp)
      cases hfm : q.x.formed with
      | false =>
        obtain ⟨rfl, rfl⟩ := HO.out q HM.out hfm
        go_wp2_with fail
        go_ret2
        exact ⟨_, rfl, Owns.nil 5 _, k03, fresh_nil w 0⟩
      | true =>
        have hfl := formed_le hfm
        have HFM := Hid.mk hfm
        clear hfm
        have hb3 := k3.keeps hb0 (by simp)
        obtain ⟨c0, c1, c2, c3⟩ := cells4 hb3
        have hW3 := (hW.out.kept k0 (by simp) (by simp)).kept k3 (by simp) (by simp)
        have hR3 := (HV.out q HM.out).kept k03 (by simp)
        have hlen := encA_len _ hall.out
        rw [List.length_take] at hlen
        go_wp2_with fail
        refine (lay27 p v' _ q.x q.ad q.cap hW3 hR3 (fun hne g hg hm => ?_) (HK.out q HM.out) (by simp only [List.length_append]; omega)).mono ?_
        · have := (HV.out q HM.out).ltg hne hg
          rcases mem_foot.1 hm with h | h
          · omega
          · have := hf.out g h; omega
        rintro e w4 ⟨rfl, v4, hW4, k4, n4⟩
        have k04 : Kept [] w w4 := k03.trans k4 (fun y hy => by
          rcases mem_foot.1 hy with h | h
          · exact .inr (by omega)
          · exact .inr (hf.out y h))
        have hf4 : Fresh w v4 := fun g hg => by
          rcases n4 g hg with h | h
          · exact hf.out g h
          · have := k03.size; omega
        go_wp2_with fail
        go_roundw
        case rel =>
          refine ⟨j + 1, v4, by go_num, by omega, Hid.mk (take_mem HQ.out hall.out HFM.out), Hid.mk ?_, Hid.mk k04, Hid.mk hf4⟩
          rw [encA_take _ _ _ HQ.out, ← List.append_assoc]
          exact hW4
        case measure => simp [intOf]; omega
    · obtain rfl : j = n := by omega
      have hall' : ∀ q ∈ l, q.x.formed = true := by have := hall.out; rwa [HN.out, List.take_length] at this
      obtain ⟨rfl, rfl⟩ := HY.out hall'
      have hlen := encA_len l hall'
      rw [← HN.out] at hlen
      have hW' := hW.out
      rw [show l.take j = l by rw [HN.out, List.take_length]] at hW'
      go_wp2_with fail
      refine (wbytes_any p _ _ _ hW' (by simp only [List.length_append]; omega)).mono ?_
      rintro e w4 ⟨v4, rfl, hO4, k4, hF4⟩
      go_wp2_with fail
      go_ret2
      exact ⟨v4, rfl, hO4, kk.out.trans k4 (by simp), fun g hg => by have := hF4 g hg; have := kk.out.size; omega⟩
end
end Go.Proofs.YtngnenbidpojeaaDoor
/-
  Lists of letters as bytes: what Unpack reads. No program.
-/
namespace Go.Proofs.YtngnenbidpojeaaDoor
open Go.RowKit
set_option linter.unusedVariables false
/-- Letters' bytes. -/
def encT (l : List Lt) : List UInt8 := l.flatMap encL
end Go.Proofs.YtngnenbidpojeaaDoor
/-
  Journals, without memory: registers, events, a journal's bytes.
-/
namespace Go.Proofs.YtngnenbidpojeaaDoor
set_option linter.unusedVariables false
/-- An event: a register is set. -/
structure Ev where
  r : Nat
  v : Int
instance : Inhabited Ev := ⟨⟨0, 0⟩⟩
/-- A journal. -/
structure Jn where
  base : List Int
  ev : List Ev
  ver : Nat
/-- An event is done. -/
def doE (b : List Int) (e : Ev) : List Int := b.set e.r e.v
/-- All are, in order. -/
def doA (b : List Int) (l : List Ev) : List Int := l.foldl doE b
def stJ (j : Jn) : List Int := doA j.base j.ev
def newJ : Jn := ⟨List.replicate 8 0, [], 0⟩
/-- The first event is done to the base, and gone. -/
def dropJ (j : Jn) : Jn := match j.ev with
  | [] => j
  | e :: t => ⟨doE j.base e, t, j.ver⟩
/-- One event more. -/
def addE (j : Jn) (e : Ev) : Jn := if 16 < j.ev.length + 1 then dropJ ⟨j.base, j.ev ++ [e], j.ver + 1⟩ else ⟨j.base, j.ev ++ [e], j.ver + 1⟩
def addA (j : Jn) (l : List Ev) : Jn := l.foldl addE j
def foldJ (j : Jn) : Jn := ⟨stJ j, [], j.ver⟩
theorem doA_append (b : List Int) (l m : List Ev) : doA b (l ++ m) = doA (doA b l) m := by simp [doA]
theorem doA_length (l : List Ev) : ∀ b, (doA b l).length = b.length := by
  induction l with
  | nil => intro b; rfl
  | cons e l ih => intro b; show (doA (doE b e) l).length = _; rw [ih]; simp [doE]
theorem ver_add (j : Jn) (e : Ev) : (addE j e).ver = j.ver + 1 := by
  unfold addE dropJ
  dsimp only
  split
  · split <;> rfl
  · rfl
theorem ver_addA (l : List Ev) : ∀ j, (addA j l).ver = j.ver + l.length := by
  induction l with
  | nil => intro j; rfl
  | cons e l ih =>
    intro j
    show (addA (addE j e) l).ver = _
    rw [ih, ver_add, List.length_cons]
    omega
/-- A journal may be. -/
structure GoodJ (j : Jn) : Prop where
  b8 : j.base.length = 8
  b64 : ∀ z ∈ j.base, I64 z
  e16 : j.ev.length ≤ 16
  ev : ∀ e ∈ j.ev, e.r ≤ 7 ∧ I64 e.v
  low : j.ev.length ≤ j.ver
  v64 : U64 j.ver
theorem GoodJ.new : GoodJ newJ := ⟨rfl, fun z hz => by rw [List.eq_of_mem_replicate hz]; unfold I64; omega, by simp [newJ], by simp [newJ], by simp [newJ], by unfold U64; simp [newJ]⟩
theorem doE_I64 {b : List Int} {e : Ev} (h : ∀ z ∈ b, I64 z) (he : I64 e.v) : ∀ z ∈ doE b e, I64 z := fun z hz => by
  rcases List.mem_or_eq_of_mem_set hz with h1 | h1
  · exact h z h1
  · rw [h1]; exact he
theorem doA_I64 (l : List Ev) : ∀ b, (∀ z ∈ b, I64 z) → (∀ e ∈ l, I64 e.v) → ∀ z ∈ doA b l, I64 z := by
  induction l with
  | nil => intro b h _; exact h
  | cons e l ih => intro b h he; exact ih (doE b e) (doE_I64 h (he e (by simp))) fun x hx => he x (by simp [hx])
theorem GoodJ.add {j : Jn} (h : GoodJ j) {e : Ev} (he : e.r ≤ 7 ∧ I64 e.v) (hv : U64 (j.ver + 1)) : GoodJ (addE j e) := by
  obtain ⟨b, ev, v⟩ := j
  have h1 := h.e16
  have h2 := h.low
  dsimp only at h1 h2 hv
  have hev : ∀ x ∈ ev ++ [e], x.r ≤ 7 ∧ I64 x.v := fun x hx => by
    rcases List.mem_append.1 hx with hx | hx
    · exact h.ev x hx
    · simp at hx; subst hx; exact he
  unfold addE
  dsimp only
  split
  · cases ev with
    | nil => simp at *
    | cons x t =>
      have hx := hev x (by simp)
      refine ⟨?_, ?_, ?_, fun y hy => hev y (List.mem_cons_of_mem x (show y ∈ t ++ [e] from hy)), ?_, hv⟩
      · show (doE b x).length = 8
        have := h.b8
        dsimp only at this
        simp [doE, this]
      · exact doE_I64 h.b64 hx.2
      · show (t ++ [e]).length ≤ 16
        simp at h1 ⊢
        omega
      · show (t ++ [e]).length ≤ v + 1
        simp at h2 ⊢
        omega
  · refine ⟨h.b8, h.b64, ?_, hev, ?_, hv⟩
    · show (ev ++ [e]).length ≤ 16
      simp
      omega
    · show (ev ++ [e]).length ≤ v + 1
      simp
      omega
theorem GoodJ.addA {l : List Ev} : ∀ {j : Jn}, GoodJ j → (∀ e ∈ l, e.r ≤ 7 ∧ I64 e.v) → U64 (j.ver + l.length) → GoodJ (addA j l) := by
  induction l with
  | nil => intro j h _ _; exact h
  | cons e l ih =>
    intro j h he hv
    rw [List.length_cons] at hv
    refine ih (h.add (he e (by simp)) (by unfold U64 at *; omega)) (fun x hx => he x (by simp [hx])) ?_
    rw [ver_add]
    unfold U64 at *
    omega
theorem GoodJ.fold {j : Jn} (h : GoodJ j) : GoodJ (foldJ j) :=
  ⟨by show (doA j.base j.ev).length = 8; rw [doA_length]; exact h.b8, doA_I64 j.ev j.base h.b64 fun e he => (h.ev e he).2, by simp [foldJ], by simp [foldJ], by simp [foldJ], h.v64⟩
/-- Integers' bytes. -/
def encI (l : List Int) : List UInt8 := l.flatMap fun z => enc (fold z)
def encV (l : List Ev) : List UInt8 := l.flatMap fun e => enc e.r ++ enc (fold e.v)
/-- A journal's bytes. -/
def encJn (j : Jn) : List UInt8 := enc j.ver ++ (encI j.base ++ (enc j.ev.length ++ encV j.ev))
end Go.Proofs.YtngnenbidpojeaaDoor
/-
  Actors, without memory: all that an actor has, its bytes, there and back.
-/
namespace Go.Proofs.YtngnenbidpojeaaDoor
set_option linter.unusedVariables false
/-- An actor. -/
structure Ac where
  j : Jn
  inb : List Lt
  out : Ob
  tries : Int
  poi : List Lt
/-- Tries and poison by themselves. -/
def soundA (tries : Int) (n : Nat) (poi : List Lt) : Bool :=
  !(decide (tries < 0) || decide (2 < tries) || (decide (0 < tries) && decide (n = 0)) || decide (8 < poi.length)) && poi.all fun x => x.formed
theorem soundA_iff (tries : Int) (n : Nat) (poi : List Lt) : soundA tries n poi = true ↔ 0 ≤ tries ∧ tries ≤ 2 ∧ (n = 0 → tries = 0) ∧ poi.length ≤ 8 ∧ ∀ x ∈ poi, x.formed = true := by
  simp only [soundA, Bool.and_eq_true, Bool.not_eq_true', Bool.or_eq_false_iff, decide_eq_false_iff_not, List.all_eq_true, Bool.and_eq_false_iff]
  constructor
  · rintro ⟨⟨⟨⟨h1, h2⟩, h3⟩, h4⟩, h5⟩
    exact ⟨by omega, by omega, fun h => by rcases h3 with h3 | h3; omega; exact absurd h h3, by omega, h5⟩
  · rintro ⟨h1, h2, h3, h4, h5⟩
    refine ⟨⟨⟨⟨by omega, by omega⟩, ?_⟩, by omega⟩, h5⟩
    rcases Nat.eq_zero_or_pos n with h | h
    · exact .inl (by have := h3 h; omega)
    · exact .inr (by omega)
/-- An actor may be (but for its tries and its poison's letters' form). -/
structure GoodP (a : Ac) : Prop where
  j : GoodJ a.j
  i8 : a.inb.length ≤ 8
  inb : ∀ x ∈ a.inb, x.ok ∧ x.formed = true
  out : GoodO a.out
  poi : ∀ x ∈ a.poi, x.ok
structure GoodA (a : Ac) : Prop extends GoodP a where
  sound : soundA a.tries a.inb.length a.poi = true
def packL (l : List Lt) : List UInt8 := enc l.length ++ encT l
/-- An actor's bytes. -/
def encAc (a : Ac) : List UInt8 := enc a.tries.toNat ++ (encTx (encJn a.j) ++ (encTx (packL a.inb) ++ (encTx (encO a.out) ++ encTx (packL a.poi))))
def newA (key : List UInt8) : Ac := ⟨newJ, [], ⟨key, [], []⟩, 0, []⟩
theorem GoodA.new {key : List UInt8} (h : isKey key = true) : GoodA (newA key) :=
  { j := GoodJ.new, i8 := by simp [newA], inb := by simp [newA], out := GoodO.new h, poi := by simp [newA], sound := by simp [newA, soundA] }
theorem encT_length (l : List Lt) (h : ∀ x ∈ l, x.formed = true) : (encT l).length ≤ 112 * l.length := by
  induction l with
  | nil => simp [encT]
  | cons x l ih =>
    have h1 := encL_length x
    have h2 := formed_le (h x (by simp))
    have h3 := ih fun y hy => h y (by simp [hy])
    have e : encT (x :: l) = encL x ++ encT l := rfl
    rw [e, List.length_append, List.length_cons]
    omega
theorem packL_length (l : List Lt) (h : ∀ x ∈ l, x.formed = true) : (packL l).length ≤ 112 * l.length + 9 := by
  have h1 := encT_length l h
  have h2 := enc_length l.length
  simp only [packL, List.length_append]
  omega
theorem encI_len9 (l : List Int) : (encI l).length ≤ 9 * l.length := (encJ_length l).2
theorem encV_len18 (l : List Ev) : (encV l).length ≤ 18 * l.length := by
  induction l with
  | nil => simp [encV]
  | cons x l ih =>
    have h1 := enc_length x.r
    have h2 := enc_length (fold x.v)
    have e : encV (x :: l) = enc x.r ++ enc (fold x.v) ++ encV l := by simp [encV]
    rw [e, List.length_append, List.length_append, List.length_cons]
    omega
theorem encJn_length {j : Jn} (h : GoodJ j) : (encJn j).length ≤ 400 := by
  have h1 := encI_len9 j.base
  have h2 := encV_len18 j.ev
  have h3 := enc_length j.ver
  have h4 := enc_length j.ev.length
  have h5 := h.b8
  have h6 := h.e16
  simp only [encJn, List.length_append]
  omega
theorem encO_length {o : Ob} (h : GoodO o) : (encO o).length ≤ 12000 := by
  have h1 := encK_length (fun y hy => (h.key y hy).1)
  have h2 := encY_length (L := o.L) (fun y hy => ⟨(h.lets y hy).2.1, by
    obtain ⟨z, hz, e⟩ := (has_mem h.rise).1 (h.lets y hy).2.2.2
    have := (isKey_iff _).1 (h.key z hz).1
    rw [← e]; omega⟩)
  have h3 := (isKey_iff _).1 h.own
  have h4 := enc_length o.own.length
  have h5 := enc_length o.K.length
  have h6 := enc_length o.L.length
  have h7 := h.kn
  have h8 := h.ln
  simp only [encO, encTx, List.length_append]
  omega
/-- What the reads of an actor's bytes find, one behind the other. -/
def R0 (l : List UInt8) := rnum l false
def R1 (l : List UInt8) := rtext (R0 l).2.1 (R0 l).2.2
def R2 (l : List UInt8) := rtext (R1 l).2.1 (R1 l).2.2
def R3 (l : List UInt8) := rtext (R2 l).2.1 (R2 l).2.2
end Go.Proofs.YtngnenbidpojeaaDoor
/-
  Steps of a region by run equations; blocks of cells; copy of rows. Over any program.
-/
namespace Go.Proofs.YtngnenbidpojeaaDoor
set_option maxRecDepth 100000
open Go.RowKit
set_option linter.unusedVariables false
theorem Kept.setRow {S : List Nat} {a w : World} (h : Kept S a w) {g : Nat} (hp : g ∈ S ∨ a.heap.size ≤ g) (cs : Array Value) : Kept S a (w.setRow g cs) :=
  ⟨h.os, h.tape, h.output, by simpa [World.setRow] using h.size, fun k hk hn => by
    rw [setRow_other w g k cs (fun e => by subst e; rcases hp with h1 | h1; exact hn h1; omega)]; exact h.block k hk hn⟩
section
variable {P : Program} {w : World}
variable {b : Nat} {v0 v1 v2 v3 x : Value} {t : TypeId}
end
section
variable {P : Program}
theorem run_copy_rowK (w : World) (dT sT ty elem : TypeId) (k g o dLen dCap : Nat) (a : Addr) (sLen sCap : Nat) (cur : Array Value) (t : TypeId) (cs : List Value)
    (hu : P.underlying dT = some (.slice elem)) (hs : (P.info? elem).map (·.size) = some k)
    (hg : w.heap[g]? = some (.cells cur t (0, 0))) (hn : cs.length = Nat.min sLen dLen * k)
    (hsrc : ∀ j v, cs[j]? = some v → w.cell? (a.add j) = some v) (hfit : o + cs.length ≤ cur.size) (h1 : ∀ v ∈ cs, v.oneCell' = true) :
    (Builtin.copy_ #[dT, sT] ty #[.slice (some ⟨g, o, none⟩) dLen dCap, .slice (some a) sLen sCap]).run P w =
      .ok (goInt (Nat.min sLen dLen)) (w.setRow g (cur.toList.take o ++ cs ++ cur.toList.drop (o + cs.length)).toArray) := by
  have hl := run_loadCells_list (P := P) w a cs hsrc
  have hst := run_storeCells_at P g o t cs 0 cur w hg (by simpa using hfit) h1
  cases hq : P.info? elem with
  | none => simp [hq] at hs
  | some i =>
    have hi : i.size = k := by simpa [hq] using hs
    simp [Builtin.copy_, run_underlying hu, Builtin.lenOf, Builtin.firstCells, sizeOf, typeInfo, hq, hi, ← hn, hl, hst]
theorem step_copy_run {w : World} {ops : Array Oper} {o : Oper} {a : Act} {Q : Exit → Act → World → Prop} (dT sT : TypeId) (d s : Operand) (ho : o.op = .call { callee := .builtin .copy, args := #[d, s], argTypes := #[dT, sT] }) (hg : o.guard = none) (v y : Value) (hs : a.eval d = v) (hx : a.eval s = y) {K : Act → World → Prop} {E : Prop} {r : Value} {w' : World} (hrun : (Builtin.copy_ #[dT, sT] o.type #[v, y]).run P w = .ok r w') (hK : K (a.put o.dst r) w') :
    if Region.wanted o (yielded ops a.tmps) = true then Oper.wp P o a w K Q else E := by
  have hw : Region.wanted o (yielded ops a.tmps) = true := by simp [Region.wanted, hg]
  rw [if_pos hw]
  unfold Oper.wp execOp
  simp only [ho, resolve, invoke, builtin, Sem.run_bind, Sem.run_pure, Result.andThen_ok, List.map_toArray, List.map_cons, List.map_nil, hs, hx, hrun]
  exact hK
theorem run_copy_noneK (w : World) (dT sT ty elem : TypeId) (k : Nat) (d a : Option Addr) (dLen dCap sLen sCap : Nat) (hu : P.underlying dT = some (.slice elem)) (hs : (P.info? elem).map (·.size) = some k) (hn : Nat.min sLen dLen = 0) :
    (Builtin.copy_ #[dT, sT] ty #[.slice d dLen dCap, .slice a sLen sCap]).run P w = .ok (goInt 0) w := by
  cases hq : P.info? elem with
  | none => simp [hq] at hs
  | some i =>
    have hl : ∀ (x : Addr), (loadCells x 0).run P w = .ok #[] w := fun x => by simpa using run_loadCells_list (P := P) w x [] (by simp)
    cases d <;> cases a <;> simp [Builtin.copy_, run_underlying hu, Builtin.lenOf, Builtin.firstCells, sizeOf, typeInfo, hq, hn, storeCells, hl]
end
theorem set_list {w : World} {p k : Nat} {L : List Value} {t : TypeId} {x : Value} (h : w.heap[p]? = some (.cells L.toArray t (0, 0))) : (w.setCell ⟨p, k, none⟩ x).heap[p]? = some (.cells (L.set k x).toArray t (0, 0)) := by
  have := set_at (x := x) (k := k) h
  rwa [List.setIfInBounds_toArray] at this
theorem ownsR_block {w : World} {g n : Nat} {e : TypeId} {k : Nat} {rs : List (List Value)} (h : w.heap[g]? = some (.cells rs.flatten.toArray e (0, 0))) (hw : Wide k rs) (hn : rs.length = n) (hl : n ≤ maxLen) : OwnsR e k w (.slice (some ⟨g, 0, none⟩) n n) rs := by
  subst hn
  refine ⟨hw.flat_length, .inr ⟨g, _, _, rfl, Nat.zero_le _, h, Nat.le_refl _, hl, ?_, ?_⟩⟩
  · rw [List.size_toArray, hw.flat_length]
  · exact List.take_of_length_le (by rw [List.toList_toArray, hw.flat_length]; exact Nat.le_refl _)
theorem own_apart {e e' : TypeId} {k k' : Nat} {w : World} {v v' : Value} {rs rs' : List (List Value)} (h : OwnsR e k w v rs) (h' : OwnsR e' k' w v' rs') (hne : e ≠ e') {g : Nat} (hg : v.ownBlock = some g) : v'.ownBlock ≠ some g := by
  intro hg'
  rcases h.2 with ⟨rfl, _⟩ | ⟨g1, cap, cur, rfl, _, hb, _⟩
  · simp [Value.ownBlock] at hg
  · rcases h'.2 with ⟨rfl, _⟩ | ⟨g2, cap', cur', rfl, _, hb', _⟩
    · simp [Value.ownBlock] at hg'
    · simp [Value.ownBlock] at hg hg'
      subst hg hg'
      rw [hb] at hb'
      injection hb' with hb'
      injection hb' with _ hb' _
      exact hne hb'
section
variable {w : World}
theorem ownsR_ne {e : TypeId} {k : Nat} {v : Value} {rs : List (List Value)} (h : OwnsR e k w v rs) {p : Nat} {cs : Array Value} {t : TypeId} {fz : Nat × Nat} (hp : w.heap[p]? = some (.cells cs t fz)) (ht : t ≠ e) : v.ownBlock ≠ some p := fun hg => by
  rcases h.2 with ⟨rfl, _⟩ | ⟨g1, cap, cur, rfl, _, hb, _⟩
  · simp [Value.ownBlock] at hg
  · simp [Value.ownBlock] at hg
    subst hg
    rw [hb] at hp
    injection hp with hp
    injection hp with _ hp _
    exact ht hp.symm
theorem box_ne {p p' : Nat} {cs cs' : Array Value} {t t' : TypeId} {fz fz' : Nat × Nat} (h : w.heap[p]? = some (.cells cs t fz)) (h' : w.heap[p']? = some (.cells cs' t' fz')) (ht : t ≠ t') : p ≠ p' := fun e => by
  subst e
  rw [h] at h'
  injection h' with h'
  injection h' with _ h' _
  exact ht h'
end
end Go.Proofs.YtngnenbidpojeaaDoor
