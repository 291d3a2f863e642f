import Derived.Deep.RegionHeld3
import Derived.Laws.Rows
import Derived.Laws.CopyRow
import Derived.Test.YtngnenbidpojeaaGreatDoorV03
import Derived.Test.YtngnenbidpojeaaGreatDoorV04
import Derived.Test.YtngnenbidpojeaaGreatDoorV05
import Derived.Test.YtngnenbidpojeaaGreatDoorV06
import Derived.Test.YtngnenbidpojeaaGreatDoorV07
import Derived.Test.YtngnenbidpojeaaGreatDoorV08
/-
  Actors, without memory: all that an actor has, its bytes, there and back.
-/
namespace Go.Proofs.YtngnenbidpojeaaGreatDoor
set_option linter.unusedVariables false
theorem decP_enc (l : List Lt) (hl : ∀ x ∈ l, x.ok ∧ x.formed = true) (hn : l.length < 18446744073709551616) : decP (enc l.length ++ encT l) = some l := by
  have h1 := rnum_back l.length hn (encT l)
  have h2 := rlN_back l hl []
  unfold decP
  rw [h1]
  dsimp only
  rw [List.append_nil] at h2
  rw [h2]
  rfl
/-- An actor. -/
structure Ac where
  j : Jn
  inb : List Lt
  out : Ob
  tries : Int
  poi : List Lt
/-- Tries and poison by themselves. -/
def soundA (tries : Int) (n : Nat) (poi : List Lt) : Bool :=
  !(decide (tries < 0) || decide (2 < tries) || (decide (0 < tries) && decide (n = 0)) || decide (8 < poi.length)) && poi.all fun x => x.formed
theorem soundA_iff (tries : Int) (n : Nat) (poi : List Lt) : soundA tries n poi = true ↔ 0 ≤ tries ∧ tries ≤ 2 ∧ (n = 0 → tries = 0) ∧ poi.length ≤ 8 ∧ ∀ x ∈ poi, x.formed = true := by
  simp only [soundA, Bool.and_eq_true, Bool.not_eq_true', Bool.or_eq_false_iff, decide_eq_false_iff_not, List.all_eq_true, Bool.and_eq_false_iff]
  constructor
  · rintro ⟨⟨⟨⟨h1, h2⟩, h3⟩, h4⟩, h5⟩
    exact ⟨by omega, by omega, fun h => by rcases h3 with h3 | h3; omega; exact absurd h h3, by omega, h5⟩
  · rintro ⟨h1, h2, h3, h4, h5⟩
    refine ⟨⟨⟨⟨by omega, by omega⟩, ?_⟩, by omega⟩, h5⟩
    rcases Nat.eq_zero_or_pos n with h | h
    · exact .inl (by have := h3 h; omega)
    · exact .inr (by omega)
/-- An actor may be (but for its tries and its poison's letters' form). -/
structure GoodP (a : Ac) : Prop where
  j : GoodJ a.j
  i8 : a.inb.length ≤ 8
  inb : ∀ x ∈ a.inb, x.ok ∧ x.formed = true
  out : GoodO a.out
  poi : ∀ x ∈ a.poi, x.ok
structure GoodA (a : Ac) : Prop extends GoodP a where
  sound : soundA a.tries a.inb.length a.poi = true
def packL (l : List Lt) : List UInt8 := enc l.length ++ encT l
/-- An actor's bytes. -/
def encAc (a : Ac) : List UInt8 := enc a.tries.toNat ++ (encTx (encJn a.j) ++ (encTx (packL a.inb) ++ (encTx (encO a.out) ++ encTx (packL a.poi))))
/-- The actor that bytes are. -/
def decAc (l : List UInt8) : Option Ac :=
  (num l).bind fun n => (txt n.2).bind fun tj => (txt tj.2).bind fun ti => (txt ti.2).bind fun to => (txt to.2).bind fun tp =>
    (decJn tj.1).bind fun j => (decP ti.1).bind fun i => (decO to.1).bind fun o => (decP tp.1).bind fun p =>
      if tp.2 = [] ∧ i.length ≤ 8 ∧ n.1 ≤ 2 ∧ soundA n.1 i.length p = true then some ⟨j, i, o, n.1, p⟩ else none
def newA (key : List UInt8) : Ac := ⟨newJ, [], ⟨key, [], []⟩, 0, []⟩
theorem GoodA.new {key : List UInt8} (h : isKey key = true) : GoodA (newA key) :=
  { j := GoodJ.new, i8 := by simp [newA], inb := by simp [newA], out := GoodO.new h, poi := by simp [newA], sound := by simp [newA, soundA] }
theorem encT_length (l : List Lt) (h : ∀ x ∈ l, x.formed = true) : (encT l).length ≤ 112 * l.length := by
  induction l with
  | nil => simp [encT]
  | cons x l ih =>
    have h1 := encL_length x
    have h2 := formed_le (h x (by simp))
    have h3 := ih fun y hy => h y (by simp [hy])
    have e : encT (x :: l) = encL x ++ encT l := rfl
    rw [e, List.length_append, List.length_cons]
    omega
theorem packL_length (l : List Lt) (h : ∀ x ∈ l, x.formed = true) : (packL l).length ≤ 112 * l.length + 9 := by
  have h1 := encT_length l h
  have h2 := enc_length l.length
  simp only [packL, List.length_append]
  omega
theorem encI_len9 (l : List Int) : (encI l).length ≤ 9 * l.length := (encJ_length l).2
theorem encV_len18 (l : List Ev) : (encV l).length ≤ 18 * l.length := by
  induction l with
  | nil => simp [encV]
  | cons x l ih =>
    have h1 := enc_length x.r
    have h2 := enc_length (fold x.v)
    have e : encV (x :: l) = enc x.r ++ enc (fold x.v) ++ encV l := by simp [encV]
    rw [e, List.length_append, List.length_append, List.length_cons]
    omega
theorem encJn_length {j : Jn} (h : GoodJ j) : (encJn j).length ≤ 400 := by
  have h1 := encI_len9 j.base
  have h2 := encV_len18 j.ev
  have h3 := enc_length j.ver
  have h4 := enc_length j.ev.length
  have h5 := h.b8
  have h6 := h.e16
  simp only [encJn, List.length_append]
  omega
theorem encO_length {o : Ob} (h : GoodO o) : (encO o).length ≤ 12000 := by
  have h1 := encK_length (fun y hy => (h.key y hy).1)
  have h2 := encY_length (L := o.L) (fun y hy => ⟨(h.lets y hy).2.1, by
    obtain ⟨z, hz, e⟩ := (has_mem h.rise).1 (h.lets y hy).2.2.2
    have := (isKey_iff _).1 (h.key z hz).1
    rw [← e]; omega⟩)
  have h3 := (isKey_iff _).1 h.own
  have h4 := enc_length o.own.length
  have h5 := enc_length o.K.length
  have h6 := enc_length o.L.length
  have h7 := h.kn
  have h8 := h.ln
  simp only [encO, encTx, List.length_append]
  omega
/-- What was encoded is decoded as it was. -/
theorem decAc_back {a : Ac} (h : GoodA a) : decAc (encAc a) = some a := by
  obtain ⟨s1, s2, s3, s4, s5⟩ := (soundA_iff _ _ _).1 h.sound
  have l1 := encJn_length h.j
  have l2 := packL_length a.inb fun x hx => (h.inb x hx).2
  have l3 := encO_length h.out
  have l4 := packL_length a.poi s5
  have i8 := h.i8
  unfold decAc encAc
  rw [num_back a.tries.toNat (by unfold U64; omega)]
  dsimp only [Option.bind_some]
  rw [txt_back _ (by omega)]
  dsimp only [Option.bind_some]
  rw [txt_back _ (by omega)]
  dsimp only [Option.bind_some]
  rw [txt_back _ (by omega)]
  dsimp only [Option.bind_some]
  rw [show encTx (packL a.poi) = encTx (packL a.poi) ++ [] by simp, txt_back _ (by omega)]
  dsimp only [Option.bind_some]
  rw [decJn_back h.j]
  dsimp only [Option.bind_some]
  rw [packL, decP_enc a.inb h.inb (by omega)]
  dsimp only [Option.bind_some]
  rw [decO_back h.out]
  dsimp only [Option.bind_some]
  rw [packL, decP_enc a.poi (fun x hx => ⟨h.poi x hx, s5 x hx⟩) (by omega)]
  dsimp only [Option.bind_some]
  have e : ((a.tries.toNat : Nat) : Int) = a.tries := by omega
  rw [e, if_pos ⟨rfl, h.i8, by omega, h.sound⟩]
theorem encAc_length {a : Ac} (h : GoodA a) : (encAc a).length ≤ 16000 := by
  obtain ⟨s1, s2, s3, s4, s5⟩ := (soundA_iff _ _ _).1 h.sound
  have l1 := encJn_length h.j
  have l2 := packL_length a.inb fun x hx => (h.inb x hx).2
  have l3 := encO_length h.out
  have l4 := packL_length a.poi s5
  have i8 := h.i8
  have e1 := enc_length a.tries.toNat
  have e2 := enc_length (encJn a.j).length
  have e3 := enc_length (packL a.inb).length
  have e4 := enc_length (encO a.out).length
  have e5 := enc_length (packL a.poi).length
  simp only [encAc, encTx, List.length_append]
  omega
/-- What the reads of an actor's bytes find, one behind the other. -/
def R0 (l : List UInt8) := rnum l false
def R1 (l : List UInt8) := rtext (R0 l).2.1 (R0 l).2.2
def R2 (l : List UInt8) := rtext (R1 l).2.1 (R1 l).2.2
def R3 (l : List UInt8) := rtext (R2 l).2.1 (R2 l).2.2
def R4 (l : List UInt8) := rtext (R3 l).2.1 (R3 l).2.2
/-- The actor of four parts. -/
def mkAc (n : Nat) (j : Option Jn) (i : Option (List Lt)) (o : Option Ob) (p : Option (List Lt)) : Option Ac :=
  j.bind fun j => i.bind fun i => o.bind fun o => p.bind fun p => if i.length ≤ 8 ∧ n ≤ 2 ∧ soundA n i.length p = true then some ⟨j, i, o, n, p⟩ else none
theorem mkAc_some {n : Nat} {j : Jn} {i : List Lt} {o : Ob} {p : List Lt} : mkAc n (some j) (some i) (some o) (some p) = if i.length ≤ 8 ∧ n ≤ 2 ∧ soundA n i.length p = true then some ⟨j, i, o, n, p⟩ else none := rfl
theorem mkAc_j {n : Nat} {i : Option (List Lt)} {o : Option Ob} {p : Option (List Lt)} : mkAc n none i o p = none := rfl
theorem mkAc_i {n : Nat} {j : Option Jn} {o : Option Ob} {p : Option (List Lt)} : mkAc n j none o p = none := by cases j <;> rfl
theorem mkAc_o {n : Nat} {j : Option Jn} {i : Option (List Lt)} {p : Option (List Lt)} : mkAc n j i none p = none := by cases j <;> cases i <;> rfl
theorem mkAc_p {n : Nat} {j : Option Jn} {i : Option (List Lt)} {o : Option Ob} : mkAc n j i o none = none := by cases j <;> cases i <;> cases o <;> rfl
theorem mkAc_n {n : Nat} {j : Option Jn} {i : Option (List Lt)} {o : Option Ob} {p : Option (List Lt)} (h : 2 < n) : mkAc n j i o p = none := by
  cases j <;> cases i <;> cases o <;> cases p <;> first | rfl | (rw [mkAc_some, if_neg (by omega)])
def decR (l : List UInt8) : Option Ac := if (!(R4 l).2.2 && (R4 l).2.1.isEmpty) = true then mkAc (R0 l).1 (decJn (R1 l).1) (decP (R2 l).1) (decO (R3 l).1) (decP (R4 l).1) else none
theorem decR_eq (l : List UInt8) : decR l = decAc l := by
  unfold decR decAc
  cases h0 : num l with
  | none =>
    have e0 : R0 l = (0, [], true) := num_none h0
    have e1 : R1 l = ([], [], true) := by rw [R1, e0]; rfl
    have e2 : R2 l = ([], [], true) := by rw [R2, e1]; rfl
    have e3 : R3 l = ([], [], true) := by rw [R3, e2]; rfl
    have e4 : R4 l = ([], [], true) := by rw [R4, e3]; rfl
    rw [e4]; rfl
  | some x0 =>
  obtain ⟨n, l1⟩ := x0
  have e0 : R0 l = (n, l1, false) := num_some h0
  dsimp only [Option.bind_some]
  cases h1 : txt l1 with
  | none =>
    have e1 : R1 l = ([], [], true) := by rw [R1, e0]; exact txt_none h1
    have e2 : R2 l = ([], [], true) := by rw [R2, e1]; rfl
    have e3 : R3 l = ([], [], true) := by rw [R3, e2]; rfl
    have e4 : R4 l = ([], [], true) := by rw [R4, e3]; rfl
    rw [e4]; rfl
  | some x1 =>
  obtain ⟨t1, l2⟩ := x1
  have e1 : R1 l = (t1, l2, false) := by rw [R1, e0]; exact txt_some h1
  dsimp only [Option.bind_some]
  cases h2 : txt l2 with
  | none =>
    have e2 : R2 l = ([], [], true) := by rw [R2, e1]; exact txt_none h2
    have e3 : R3 l = ([], [], true) := by rw [R3, e2]; rfl
    have e4 : R4 l = ([], [], true) := by rw [R4, e3]; rfl
    rw [e4]; rfl
  | some x2 =>
  obtain ⟨t2, l3⟩ := x2
  have e2 : R2 l = (t2, l3, false) := by rw [R2, e1]; exact txt_some h2
  dsimp only [Option.bind_some]
  cases h3 : txt l3 with
  | none =>
    have e3 : R3 l = ([], [], true) := by rw [R3, e2]; exact txt_none h3
    have e4 : R4 l = ([], [], true) := by rw [R4, e3]; rfl
    rw [e4]; rfl
  | some x3 =>
  obtain ⟨t3, l4⟩ := x3
  have e3 : R3 l = (t3, l4, false) := by rw [R3, e2]; exact txt_some h3
  dsimp only [Option.bind_some]
  cases h4 : txt l4 with
  | none =>
    have e4 : R4 l = ([], [], true) := by rw [R4, e3]; exact txt_none h4
    rw [e4]; rfl
  | some x4 =>
  obtain ⟨t4, l5⟩ := x4
  have e4 : R4 l = (t4, l5, false) := by rw [R4, e3]; exact txt_some h4
  rw [e0, e1, e2, e3, e4]
  dsimp only [Option.bind_some]
  by_cases hl : l5 = []
  · subst hl
    rw [if_pos (show (!false && ([] : List UInt8).isEmpty) = true from rfl)]
    cases decJn t1 <;> cases decP t2 <;> cases decO t3 <;> cases decP t4 <;> simp [mkAc]
  · rw [if_neg (by simp [hl])]
    cases decJn t1 <;> cases decP t2 <;> cases decO t3 <;> cases decP t4 <;> simp [hl]
end Go.Proofs.YtngnenbidpojeaaGreatDoor
/-
  Steps of a region by run equations; blocks of cells; copy of rows. Over any program.
-/
namespace Go.Proofs.YtngnenbidpojeaaGreatDoor
set_option maxRecDepth 100000
open Go.RowKit
set_option linter.unusedVariables false
theorem Kept.setRow {S : List Nat} {a w : World} (h : Kept S a w) {g : Nat} (hp : g ∈ S ∨ a.heap.size ≤ g) (cs : Array Value) : Kept S a (w.setRow g cs) :=
  ⟨h.os, h.tape, h.output, by simpa [World.setRow] using h.size, fun k hk hn => by
    rw [setRow_other w g k cs (fun e => by subst e; rcases hp with h1 | h1; exact hn h1; omega)]; exact h.block k hk hn⟩
section
variable {P : Program} {w : World}
variable {b : Nat} {v0 v1 v2 v3 x : Value} {t : TypeId}
end
section
variable {P : Program}
theorem run_copy_rowK (w : World) (dT sT ty elem : TypeId) (k g o dLen dCap : Nat) (a : Addr) (sLen sCap : Nat) (cur : Array Value) (t : TypeId) (cs : List Value)
    (hu : P.underlying dT = some (.slice elem)) (hs : (P.info? elem).map (·.size) = some k)
    (hg : w.heap[g]? = some (.cells cur t (0, 0))) (hn : cs.length = Nat.min sLen dLen * k)
    (hsrc : ∀ j v, cs[j]? = some v → w.cell? (a.add j) = some v) (hfit : o + cs.length ≤ cur.size) (h1 : ∀ v ∈ cs, v.oneCell' = true) :
    (Builtin.copy_ #[dT, sT] ty #[.slice (some ⟨g, o, none⟩) dLen dCap, .slice (some a) sLen sCap]).run P w =
      .ok (goInt (Nat.min sLen dLen)) (w.setRow g (cur.toList.take o ++ cs ++ cur.toList.drop (o + cs.length)).toArray) := by
  have hl := run_loadCells_list (P := P) w a cs hsrc
  have hst := run_storeCells_at P g o t cs 0 cur w hg (by simpa using hfit) h1
  cases hq : P.info? elem with
  | none => simp [hq] at hs
  | some i =>
    have hi : i.size = k := by simpa [hq] using hs
    simp [Builtin.copy_, run_underlying hu, Builtin.lenOf, Builtin.firstCells, sizeOf, typeInfo, hq, hi, ← hn, hl, hst]
theorem step_copy_run {w : World} {ops : Array Oper} {o : Oper} {a : Act} {Q : Exit → Act → World → Prop} (dT sT : TypeId) (d s : Operand) (ho : o.op = .call { callee := .builtin .copy, args := #[d, s], argTypes := #[dT, sT] }) (hg : o.guard = none) (v y : Value) (hs : a.eval d = v) (hx : a.eval s = y) {K : Act → World → Prop} {E : Prop} {r : Value} {w' : World} (hrun : (Builtin.copy_ #[dT, sT] o.type #[v, y]).run P w = .ok r w') (hK : K (a.put o.dst r) w') :
    if Region.wanted o (yielded ops a.tmps) = true then Oper.wp P o a w K Q else E := by
  have hw : Region.wanted o (yielded ops a.tmps) = true := by simp [Region.wanted, hg]
  rw [if_pos hw]
  unfold Oper.wp execOp
  simp only [ho, resolve, invoke, builtin, Sem.run_bind, Sem.run_pure, Result.andThen_ok, List.map_toArray, List.map_cons, List.map_nil, hs, hx, hrun]
  exact hK
theorem run_copy_noneK (w : World) (dT sT ty elem : TypeId) (k : Nat) (d a : Option Addr) (dLen dCap sLen sCap : Nat) (hu : P.underlying dT = some (.slice elem)) (hs : (P.info? elem).map (·.size) = some k) (hn : Nat.min sLen dLen = 0) :
    (Builtin.copy_ #[dT, sT] ty #[.slice d dLen dCap, .slice a sLen sCap]).run P w = .ok (goInt 0) w := by
  cases hq : P.info? elem with
  | none => simp [hq] at hs
  | some i =>
    have hl : ∀ (x : Addr), (loadCells x 0).run P w = .ok #[] w := fun x => by simpa using run_loadCells_list (P := P) w x [] (by simp)
    cases d <;> cases a <;> simp [Builtin.copy_, run_underlying hu, Builtin.lenOf, Builtin.firstCells, sizeOf, typeInfo, hq, hn, storeCells, hl]
end
theorem set_list {w : World} {p k : Nat} {L : List Value} {t : TypeId} {x : Value} (h : w.heap[p]? = some (.cells L.toArray t (0, 0))) : (w.setCell ⟨p, k, none⟩ x).heap[p]? = some (.cells (L.set k x).toArray t (0, 0)) := by
  have := set_at (x := x) (k := k) h
  rwa [List.setIfInBounds_toArray] at this
theorem ownsR_block {w : World} {g n : Nat} {e : TypeId} {k : Nat} {rs : List (List Value)} (h : w.heap[g]? = some (.cells rs.flatten.toArray e (0, 0))) (hw : Wide k rs) (hn : rs.length = n) (hl : n ≤ maxLen) : OwnsR e k w (.slice (some ⟨g, 0, none⟩) n n) rs := by
  subst hn
  refine ⟨hw.flat_length, .inr ⟨g, _, _, rfl, Nat.zero_le _, h, Nat.le_refl _, hl, ?_, ?_⟩⟩
  · rw [List.size_toArray, hw.flat_length]
  · exact List.take_of_length_le (by rw [List.toList_toArray, hw.flat_length]; exact Nat.le_refl _)
theorem own_apart {e e' : TypeId} {k k' : Nat} {w : World} {v v' : Value} {rs rs' : List (List Value)} (h : OwnsR e k w v rs) (h' : OwnsR e' k' w v' rs') (hne : e ≠ e') {g : Nat} (hg : v.ownBlock = some g) : v'.ownBlock ≠ some g := by
  intro hg'
  rcases h.2 with ⟨rfl, _⟩ | ⟨g1, cap, cur, rfl, _, hb, _⟩
  · simp [Value.ownBlock] at hg
  · rcases h'.2 with ⟨rfl, _⟩ | ⟨g2, cap', cur', rfl, _, hb', _⟩
    · simp [Value.ownBlock] at hg'
    · simp [Value.ownBlock] at hg hg'
      subst hg hg'
      rw [hb] at hb'
      injection hb' with hb'
      injection hb' with _ hb' _
      exact hne hb'
section
variable {w : World}
theorem ownsR_ne {e : TypeId} {k : Nat} {v : Value} {rs : List (List Value)} (h : OwnsR e k w v rs) {p : Nat} {cs : Array Value} {t : TypeId} {fz : Nat × Nat} (hp : w.heap[p]? = some (.cells cs t fz)) (ht : t ≠ e) : v.ownBlock ≠ some p := fun hg => by
  rcases h.2 with ⟨rfl, _⟩ | ⟨g1, cap, cur, rfl, _, hb, _⟩
  · simp [Value.ownBlock] at hg
  · simp [Value.ownBlock] at hg
    subst hg
    rw [hb] at hp
    injection hp with hp
    injection hp with _ hp _
    exact ht hp.symm
theorem box_ne {p p' : Nat} {cs cs' : Array Value} {t t' : TypeId} {fz fz' : Nat × Nat} (h : w.heap[p]? = some (.cells cs t fz)) (h' : w.heap[p']? = some (.cells cs' t' fz')) (ht : t ≠ t') : p ≠ p' := fun e => by
  subst e
  rw [h] at h'
  injection h' with h'
  injection h' with _ h' _
  exact ht h'
end
end Go.Proofs.YtngnenbidpojeaaGreatDoor
/-
  Decode, and the document's.
-/
namespace Go.Proofs.YtngnenbidpojeaaGreatDoor
open Go.RowKit
set_option linter.unusedVariables false
section
variable {w : World}
set_option maxRecDepth 100000 in
set_option maxHeartbeats 1000000 in
theorem decode18 (v : Value) (l : List UInt8) (hr : Reads w v l) (hl : l.length ≤ 140737488355328) : Calls Tryz.prog 155 #[v] w fun e w' => DecAt w l e w' := by
  go_enter Tryz.func155, Tryz.ntmps155
  go_wp2_with fail
  obtain ⟨W0, e0, k0, hz0, hb0⟩ := box1 w (.cells #[.string ⟨#[]⟩, .int .u64 0, .int .i64 0, .slice none 0 0] 81)
  rw [e0]
  clear e0
  refine (newr_in v l W0 (hr.kept k0 (by simp)) hl).mono ?_
  rintro e w1 ⟨p, v1, rfl, hR1, k1, hf1, hp1, hin⟩
  go_wp2_with fail
  refine (read34 p v1 l false hR1 hin).mono ?_
  rintro e w2 ⟨x, a, c, rfl, hx, hO, hF, v2, hR2, k2, hV2⟩
  have k12 : Kept [] W0 w2 := k1.trans k2 (fun y hy => by simp at hy; subst hy; exact .inr hp1)
  have hb2 := k12.keeps hb0 (by simp)
  have HX := Hid.mk hx
  clear hx
  have HD : Hid (decL l = if (!(rlet l false).2.2 && (rlet l false).2.1.isEmpty) = true then (rlet l false).1 else none) := rfl
  generalize rlet l false = r at HX HD hR2
  have k02 := k0.trans k12 (by simp)
  have hF2 : Fresh w (.slice a x.args.length c) := fun g hg => by have := hF g hg; have := k1.size; have := k0.size; omega
  have hF2' : ∀ g, (Value.slice a x.args.length c).ownBlock = some g → w.heap.size < g := fun g hg => by have := hF g hg; have := k1.size; omega
  have kW := (Kept.refl [] w2).alloc (.cells #[Sv x.fr, .int .u64 (x.ser : Int), .int .i64 x.kind, .slice a x.args.length c] 81)
  have hb3 := kW.keeps hb2 (by simp)
  have hlt := lt_of_block hb2
  obtain ⟨d0, d1, d2, d3⟩ := cells4 hb2
  obtain ⟨g0, g1, g2, g3⟩ := free4 hb2
  clear hF k12 hb0 k1 k2 hz0 hr
  obtain ⟨r1, r2, r3⟩ := r
  dsimp only at HX HD hR2
  cases r1 with
  | none =>
    dsimp only [Option.isSome]
    go_wp2_with fail
    obtain ⟨W5, e5, k5, hb5, -⟩ := put4 hb2 (.string ⟨#[]⟩) (.int .u64 0) (.int .i64 0) (.slice none 0 0)
    rw [e5]
    clear e5
    have kV := (Kept.refl [] W5).alloc (.cells #[Sv x.fr, .int .u64 (x.ser : Int), .int .i64 x.kind, .slice a x.args.length c] 81)
    refine bodyPost_ret (results_cell_row2 (p := 2) (u := 3) (ty := 81) rfl _ _ w.heap.size 81 _ (0, 0) _ rfl (kV.keeps hb5 (by simp)) Tryz.underlying81 rfl (by kernel_rfl) _ rfl) rfl ?_
    refine decAt_none (by rw [HD.out]; simp) ((k02.trans k5 (fun y hy => by simp at hy; subst hy; exact .inr (Nat.le_refl _))).trans kV (by simp))
  | some y =>
    obtain rfl := HX.out y rfl
    dsimp only [Option.isSome]
    go_wp2_with fail
    obtain ⟨W3, e3, -, hz3, hb4⟩ := box1 w2 (.cells #[Sv x.fr, .int .u64 (x.ser : Int), .int .i64 x.kind, .slice a x.args.length c] 81)
    rw [e3] at hb3 kW
    rw [e3]
    clear e3 d0 d1 d2 d3 g0 g1 g2 g3 hb2
    have hR3 := hR2.kept kW (by simp) (by simp)
    refine (end_any p v2 _ _ _ hR3).mono ?_
    rintro e w4 ⟨rfl, rfl⟩
    obtain ⟨d0, d1, d2, d3⟩ := cells4 hb3
    obtain ⟨g0, g1, g2, g3⟩ := free4 hb3
    obtain ⟨c0, c1, c2, c3⟩ := cells4 hb4
    cases hq : (!r3 && r2.isEmpty) with
    | false =>
      rw [hq] at HD
      clear hq
      go_wp2_with fail
      obtain ⟨W5, e5, k5, hb5, -⟩ := put4 hb3 (.string ⟨#[]⟩) (.int .u64 0) (.int .i64 0) (.slice none 0 0)
      rw [e5]
      clear e5
      refine bodyPost_ret (results_cell_row2 (p := 2) (u := 3) (ty := 81) rfl _ _ w.heap.size 81 _ (0, 0) _ rfl hb5 Tryz.underlying81 rfl (by kernel_rfl) _ rfl) rfl ?_
      refine decAt_none (by rw [HD.out]; simp) ((k02.trans kW (by simp)).trans k5 (fun y hy => by simp at hy; subst hy; exact .inr (Nat.le_refl _)))
    | true =>
      rw [hq] at HD
      clear hq
      go_wp2_with fail
      obtain ⟨W5, e5, k5, hb5, -⟩ := put4 hb3 (Sv x.fr) (.int .u64 (x.ser : Int)) (.int .i64 x.kind) (.slice a x.args.length c)
      rw [e5]
      clear e5
      refine bodyPost_ret (results_cell_row2 (p := 2) (u := 3) (ty := 81) rfl _ _ w.heap.size 81 _ (0, 0) _ rfl hb5 Tryz.underlying81 rfl (by kernel_rfl) _ rfl) rfl ?_
      refine decAt_some (by rw [HD.out]; simp) ((hO.kept kW (by simp)).kept k5 (fun g hg hm => ?_)) ((k02.trans kW (by simp)).trans k5 (fun y hy => by simp at hy; subst hy; exact .inr (Nat.le_refl _))) hF2
      have := hF2' g hg
      simp at hm
      omega
end
end Go.Proofs.YtngnenbidpojeaaGreatDoor
/-
  Encode, and the document's Lay and Encode.
-/
namespace Go.Proofs.YtngnenbidpojeaaGreatDoor
open Go.RowKit
set_option linter.unusedVariables false
section
variable {w : World}
set_option maxRecDepth 100000 in
set_option maxHeartbeats 1000000 in
theorem encode11 (x : Lt) (a : Option Addr) (c : Nat) (hx : ReadsJ w (.slice a x.args.length c) x.args) (hok : x.ok) :
    Calls Tryz.prog 111 #[Lv x a c] w fun e w' => TwoB w (encB x) (encE x) e w' := by
  have HX := Hid.mk hx
  clear hx
  have k0 := (Kept.refl [] w).alloc (.cells #[Sv x.fr, .int .u64 (x.ser : Int), .int .i64 x.kind, .slice a x.args.length c] 81)
  have HF : Hid (∀ W, Calls Tryz.prog 74 #[Lv x a c] W fun e w' => e = .returned (.bool x.formed) ∧ Kept [] W w') := fun W => formed13 x a c
  cases hf : x.formed with
  | false =>
    have hq : encB x = [] ∧ encE x = 1 := by simp [encB, encE, hf]
    rw [hq.1, hq.2]
    clear hq
    rw [hf] at HF
    clear hf
    go_enter Tryz.func111, Tryz.ntmps111
    go_wp2_with fail
    refine (HF.out _).mono ?_
    rintro e w1 ⟨rfl, k1⟩
    go_wp2_with fail
    go_ret2
    exact ⟨_, rfl, Owns.nil 5 _, k0.trans k1 (by simp), fresh_nil w 0⟩
  | true =>
    have hq : encB x = encL x ∧ encE x = 0 := by simp [encB, encE, hf]
    rw [hq.1, hq.2]
    clear hq
    have hf2 : x.fr.length ≤ 40 ∧ x.args.length ≤ 4 := by simpa [Lt.formed] using hf
    obtain ⟨hf3, hf4⟩ := hf2
    have hel := encL_length x
    rw [hf] at HF
    clear hf
    go_enter Tryz.func111, Tryz.ntmps111
    go_wp2_with fail
    obtain ⟨W0, e0, -, hz0, hb0⟩ := box1 w (.cells #[Sv x.fr, .int .u64 (x.ser : Int), .int .i64 x.kind, .slice a x.args.length c] 81)
    rw [e0] at k0
    rw [e0]
    clear e0
    refine (HF.out _).mono ?_
    rintro e w1 ⟨rfl, k1⟩
    go_wp2_with fail
    refine (newW _).mono ?_
    rintro e w2 ⟨p, rfl, hW2, k2, hp2⟩
    have hb2 := k2.keeps (k1.keeps hb0 (by simp)) (by simp)
    have k02 := (k0.trans k1 (by simp)).trans k2 (by simp)
    obtain ⟨c0, c1, c2, c3⟩ := cells4 hb2
    have hsz := k1.size
    go_wp2_with fail
    refine (lay27 p _ [] x a c hW2 (HX.out.kept k02 (by simp)) (fun hne g hg hm => ?_) hok (by simp; omega)).mono ?_
    · have := HX.out.ltg hne hg
      have := k0.size
      rw [foot_nil] at hm
      simp at hm
      omega
    rintro e w3 ⟨rfl, v3, hW3, k3, n3⟩
    rw [List.nil_append] at hW3
    rw [foot_nil] at k3
    go_wp2_with fail
    refine (wbytes_any p _ _ _ hW3 (by omega)).mono ?_
    rintro e w4 ⟨v4, rfl, hO4, k4, hF4⟩
    go_wp2_with fail
    go_ret2
    have k23 : Kept [] w w3 := k02.trans k3 (by simp; omega)
    refine ⟨v4, rfl, hO4, k23.trans k4 (by simp), fun g hg => ?_⟩
    have := hF4 g hg
    have := k23.size
    omega
end
end Go.Proofs.YtngnenbidpojeaaGreatDoor
