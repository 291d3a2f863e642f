import Derived.Deep.RegionLaw
import Derived.ChangeKeysEq
import Derived.Deep.QuietTactic
import Derived.BigQuiet
import Derived.WalkKit
import Derived.Deep.AppendLies
import Derived.Lib.AppendStr
import Derived.Laws.IdiomStrings
import Derived.OneCell
import Derived.KernelRfl
import Derived.IntWalk
import Derived.Lib.ItoaMem
import Derived.Lib.ParseIntBTie
import Derived.Lib.CutLaws
import Derived.Test.YtngnenbidpojeaaGreatDoorQ01
import Derived.Test.YtngnenbidpojeaaGreatDoorQ02
import Derived.Test.YtngnenbidpojeaaGreatDoorQ03
import Derived.Test.YtngnenbidpojeaaGreatDoorQ04
import Derived.Test.YtngnenbidpojeaaGreatDoorQ05
import Derived.Test.YtngnenbidpojeaaGreatDoorQ07
import Derived.Test.YtngnenbidpojeaaGreatDoorQ08
import Derived.Test.YtngnenbidpojeaaGreatDoorQ09
import Derived.Test.YtngnenbidpojeaaGreatDoorQ13
import Derived.Test.YtngnenbidpojeaaGreatDoorQ15
import Derived.Test.YtngnenbidpojeaaGreatDoorQ17
import Derived.Test.YtngnenbidpojeaaGreatDoorQ18
/-
  theirs; one journal of the program's since a world; awake.
-/
namespace Go.Proofs.YtngnenbidpojeaaGreatDoor
set_option maxRecDepth 100000
open Go.RowKit
set_option linter.unusedVariables false
section
variable {w : World}
end
theorem index29 {A : List Int} {i : Nat} {x : Int} (ha : A.length = 8) (h : A[i]? = some x) (W : World) : (Instr.index 84 (.agg (BI A).toArray) (.int .i64 (i : Int))).run Tryz.prog W = .ok (Iv x) W := by
  have hs : (sizeOf 2).run Tryz.prog W = .ok 1 W := by kernel_rfl
  have hc : (BI A)[i]? = some (Iv x) := BI_get h
  simp [Instr.index, run_underlying Tryz.underlying84, asIntOf, hs, part, go_sem, hc]
  intro h8
  have := get_lt h
  omega
theorem toE_ok {e : Ep} (h : badE e = false) (h6 : E64 e) : (toE e).r ≤ 7 ∧ I64 (toE e).v := by
  have := badE_no h
  exact ⟨by show e.1.toNat ≤ 7; omega, h6.2⟩
theorem GoodJ.addR {j : Jn} (h : GoodJ j) {l : List Ep} (h6 : ∀ e ∈ l, E64 e) (hv : j.ver + l.length < 18446744073709551616) : GoodJ (addR j l) := by
  unfold YtngnenbidpojeaaGreatDoor.addR
  split
  · exact h
  · rename_i ha
    refine GoodJ.addA h (fun e he => ?_) (by rw [List.length_map]; exact hv)
    obtain ⟨x, hx, rfl⟩ := List.mem_map.1 he
    refine toE_ok ?_ (h6 x hx)
    cases hb : badE x with
    | false => rfl
    | true => exact absurd (List.any_eq_true.2 ⟨x, hx, hb⟩) ha
section
variable {w0 w w' : World} {p : Nat} {j : Jn}
end
end Go.Proofs.YtngnenbidpojeaaGreatDoor
/-
  same: a journal of the program's held against the document's.
-/
namespace Go.Proofs.YtngnenbidpojeaaGreatDoor
set_option maxRecDepth 100000
open Go.RowKit
set_option linter.unusedVariables false
/-- A world that kept all of another. -/
structure KW (a : World) where
  w : World
  k : Kept [] a w
instance (a : World) : Nonempty (KW a) := ⟨⟨a, Kept.refl [] a⟩⟩
theorem calls_kw {P : Program} {f : FuncId} {args : Array Value} {v : Value} {a : World} {z : KW a} (h : Calls P f args z.w fun e w' => e = .returned v ∧ Kept [] z.w w') : Calls P f args z.w fun e w'' => e = .returned v ∧ ∃ z' : KW a, w'' = z'.w :=
  h.mono fun e w'' h => ⟨h.1, ⟨w'', z.k.trans h.2 (by simp)⟩, rfl⟩
theorem wp_region_kw {P : Program} {C : World → Prop} {id : Nat} {Q : Exit → Act → World → Prop} {a : Act} {w : World} {l : List Oper} (hm : P.follows .mixedOrders = true) (hB : Region.lexB .any l.toArray = true) (hC : C w.drew)
    (h : wpQuiet P l.toArray C (fun a' => ∀ w', C w' → Q .normal a' w') l a) : (Code.region id l.toArray true).wp P Q a w :=
  wp_region_quiet (C := C) hm hB hC (by simpa using h)
section
variable {w : World} {p f : Nat} {v : Value} {j : Jn}
end
end Go.Proofs.YtngnenbidpojeaaGreatDoor
/-
  An actor in memory, the program's and the document's, side by side, while they are made.
-/
namespace Go.Proofs.YtngnenbidpojeaaGreatDoor
set_option maxRecDepth 100000
open Go.RowKit
set_option linter.unusedVariables false
/-- Blocks of these types alone, new since w0, are other ones. -/
def TT (ts : List Nat) (w0 w w' : World) : Prop := ∃ S, Kept S w w' ∧ ∀ g ∈ S, w0.heap.size ≤ g ∧ ∃ cs t, w.heap[g]? = some (.cells cs t (0, 0)) ∧ t ∈ ts
section
variable {w0 w w' : World} {ts : List Nat}
theorem TT.of0 (k : Kept [] w w') : TT ts w0 w w' := ⟨[], k, by simp⟩
theorem TT.kept0 (T : TT ts w0 w w') (k : Kept [] w0 w) : Kept [] w0 w' := by
  obtain ⟨S, kS, hS⟩ := T
  exact k.trans kS (fun x hx => .inr (hS x hx).1)
theorem TT.ne {S : List Nat} (hS : ∀ g ∈ S, w0.heap.size ≤ g ∧ ∃ cs t, w.heap[g]? = some (.cells cs t (0, 0)) ∧ t ∈ ts) {g : Nat} {cs : Array Value} {t : TypeId} {fz : Nat × Nat} (h : w.heap[g]? = some (.cells cs t fz)) (ht : t ∉ ts) : g ∉ S := fun hm => by
  obtain ⟨-, cs', t', h', ht'⟩ := hS g hm
  rw [h] at h'
  injection h' with h'
  injection h' with _ e
  subst e
  exact ht ht'
theorem TT.box (T : TT ts w0 w w') {g : Nat} {cs : Array Value} {t : TypeId} {fz : Nat × Nat} (h : w.heap[g]? = some (.cells cs t fz)) (ht : t ∉ ts) : w'.heap[g]? = some (.cells cs t fz) := by
  obtain ⟨S, kS, hS⟩ := T
  exact kS.keeps h (TT.ne hS h ht)
theorem TT.neR {S : List Nat} (hS : ∀ g ∈ S, w0.heap.size ≤ g ∧ ∃ cs t, w.heap[g]? = some (.cells cs t (0, 0)) ∧ t ∈ ts) {e : TypeId} {k : Nat} {v : Value} {rs : List (List Value)} (h : OwnsR e k w v rs) (ht : e ∉ ts) : ∀ g, v.ownBlock = some g → g ∉ S := fun g hg => by
  rcases ownR_form h with ⟨rfl, -⟩ | ⟨g1, cap, cur, rfl, hb⟩
  · simp [Value.ownBlock] at hg
  · simp [Value.ownBlock] at hg
    subst hg
    exact TT.ne hS hb ht
theorem TT.neJ {S : List Nat} (hS : ∀ g ∈ S, w0.heap.size ≤ g ∧ ∃ cs t, w.heap[g]? = some (.cells cs t (0, 0)) ∧ t ∈ ts) {v : Value} {l : List Int} (h : OwnsJ w v l) (ht : (2 : Nat) ∉ ts) : ∀ g, v.ownBlock = some g → g ∉ S := fun g hg => by
  obtain ⟨cs, hb⟩ := ownsJ_type h hg
  exact TT.ne hS hb ht
theorem TT.isJ {p : Nat} {j : Jn} (T : TT ts w0 w w') (h : IsJ w p j) (ht : (177 : Nat) ∉ ts) : IsJ w' p j := by
  obtain ⟨S, kS, hS⟩ := T
  exact h.kept kS (TT.ne hS h.isP.box ht)
theorem TT.isB {p : Nat} {qs : List Lq} (T : TT ts w0 w w') (h : IsB w p qs) (ht : (140 : Nat) ∉ ts) (h2 : (2 : Nat) ∉ ts) : IsB w' p qs := by
  obtain ⟨S, kS, hS⟩ := T
  exact h.kept kS (TT.ne hS h.box ht) fun q hq => TT.neJ hS (h.args q hq) h2
theorem TT.isO {p : Nat} {own : List UInt8} {K : List La} {qs : List Yq} (T : TT ts w0 w w') (h : IsO w p own K qs) (ht : (168 : Nat) ∉ ts) (h2 : (2 : Nat) ∉ ts) : IsO w' p own K qs := by
  obtain ⟨S, kS, hS⟩ := T
  obtain ⟨cs, hb⟩ := h.bx
  exact h.kept kS (TT.ne hS hb ht) fun q hq => TT.neJ hS (h.args q hq) h2
theorem TT.ofJ {p : Nat} {j : Jn} (h : IsJ w p j) (hp : w0.heap.size ≤ p) (k : Kept [p] w w') : TT [177] w0 w w' :=
  ⟨[p], k, fun g hg => by simp at hg; subst hg; exact ⟨hp, _, _, h.isP.box, by simp⟩⟩
theorem TT.ofB {p : Nat} {qs : List Lq} (h : IsB w p qs) (hp : w0.heap.size ≤ p) (k : Kept [p] w w') : TT [140] w0 w w' :=
  ⟨[p], k, fun g hg => by simp at hg; subst hg; exact ⟨hp, _, _, h.box, by simp⟩⟩
theorem TT.ofO {p : Nat} {own : List UInt8} {K : List La} {qs : List Yq} (h : IsO w p own K qs) (hp : w0.heap.size ≤ p) (k : Kept [p] w w') : TT [168] w0 w w' := by
  obtain ⟨cs, hb⟩ := h.bx
  exact ⟨[p], k, fun g hg => by simp at hg; subst hg; exact ⟨hp, _, _, hb, by simp⟩⟩
end
/-- Where the parts of the two actors lie. -/
structure Pt where
  p : Nat
  j : Nat
  i : Nat
  o : Nat
  f : Nat
  fj : Nat
  fi : Nat
  fo : Nat
abbrev Ptr (g : Nat) : Value := .pointer (some ⟨g, 0, none⟩)
/-- The program's actor: its parts, its tries t, its poison's row v. -/
structure PA (w0 w : World) (p pj pi po : Nat) (t : Int) (v : Value) (a : Ac) : Prop where
  box : w.heap[p]? = some (.cells #[Ptr pj, Ptr pi, Ptr po, Iv t, v] 66 (0, 0))
  j : IsJ w pj a.j
  i : ∃ qs, IsB w pi qs ∧ qs.map (·.x) = a.inb
  o : ∃ ys, IsO w po a.out.own a.out.K ys ∧ ys.map ot = a.out.L
  hp : w0.heap.size ≤ p
  hj : w0.heap.size ≤ pj
  hi : w0.heap.size ≤ pi
  ho : w0.heap.size ≤ po
section
variable {w0 w w' : World} {p pj pi po f fj fi fo : Nat} {t : Int} {v : Value} {a b : Ac} {ts : List Nat}
theorem PA.turn (h : PA w0 w p pj pi po t v a) (T : TT ts w0 w w') (ht : ∀ x ∈ [66, 177, 140, 168, 2], x ∉ ts) : PA w0 w' p pj pi po t v a := by
  obtain ⟨h1, h2, ⟨qs, h3, h4⟩, ⟨ys, h5, h6⟩, h7, h8, h9, h10⟩ := h
  exact ⟨T.box h1 (ht _ (by simp)), T.isJ h2 (ht _ (by simp)), ⟨qs, T.isB h3 (ht _ (by simp)) (ht _ (by simp)), h4⟩, ⟨ys, T.isO h5 (ht _ (by simp)) (ht _ (by simp)), h6⟩, h7, h8, h9, h10⟩
theorem PA.kept0 (h : PA w0 w p pj pi po t v a) (k : Kept [] w w') : PA w0 w' p pj pi po t v a := h.turn (ts := []) (TT.of0 k) (by simp)
end
section
variable {w0 w w' : World} {P : Pt} {t s : Int} {v u : Value} {a b : Ac}
theorem pushL_good {l : List Lt} {x : Lt} (h8 : l.length ≤ 8) (hl : ∀ y ∈ l, y.ok ∧ y.formed = true) (hx : x.ok) : (pushL l x).length ≤ 8 ∧ ∀ y ∈ pushL l x, y.ok ∧ y.formed = true := by
  unfold pushL
  split
  · rename_i h
    refine ⟨by rw [List.length_append]; simp; omega, fun y hy => ?_⟩
    rcases List.mem_append.1 hy with h1 | h1
    · exact hl y h1
    · simp at h1; subst h1; exact ⟨hx, h.1⟩
  · exact ⟨h8, hl⟩
/-- A letter that is pushed. -/
def pushAc (a : Ac) (x : Lt) : Ac := ⟨a.j, pushL a.inb x, a.out, a.tries, a.poi⟩
theorem GoodP.push (h : GoodP a) {x : Lt} (hx : x.ok) : GoodP (pushAc a x) :=
  ⟨h.j, (pushL_good h.i8 h.inb hx).1, (pushL_good h.i8 h.inb hx).2, h.out, h.poi⟩
end
/-- What a Send leaves. -/
def sndO (o : Ob) (to : List UInt8) (kind : Int) (args : List Int) : Ob :=
  if isKey to = true ∧ args.length ≤ 4 ∧ o.L.length ≠ 32 ∧ (hasK o.K to = true ∨ o.K.length ≠ 64) then sendO o to kind args else o
/-- No serial is above B. -/
def SerB (o : Ob) (B : Nat) : Prop := ∀ y ∈ o.K, y.s ≤ B
theorem SerB.le {o : Ob} {B : Nat} (h : SerB o B) (to : List UInt8) : ser o.K to ≤ B := by
  cases hk : hasK o.K to with
  | false => rw [(has_not hk).1]; omega
  | true =>
    obtain ⟨s, h1, h2⟩ := has_at hk
    rw [h2]
    exact h _ (List.mem_of_getElem? h1)
theorem SerB.snd {o : Ob} {B : Nat} (h : SerB o B) (to : List UInt8) (kind : Int) (args : List Int) : SerB (sndO o to kind args) (B + 1) := by
  unfold sndO
  split
  · intro y hy
    rcases setK_mem hy with rfl | hy
    · show ser o.K to + 1 ≤ _
      have := h.le to
      omega
    · have := h y hy
      omega
  · intro y hy
    have := h y hy
    omega
theorem GoodO.snd {o : Ob} (g : GoodO o) {B : Nat} (hB : SerB o B) (h6 : B < 4611686018427387904) {to : List UInt8} {kind : Int} {args : List Int} (hk : I64 kind) (ha : ∀ z ∈ args, I64 z) : GoodO (sndO o to kind args) := by
  unfold sndO
  split
  · rename_i h
    have h3 := g.ln
    have h4 := g.kn
    have h5 := hB.le to
    refine g.send h.1 hk ha h.2.1 (by omega) ?_ (by show _ < _; omega)
    rcases h.2.2.2 with h | h
    · exact .inl h
    · right; omega
  · exact g
section
variable {w0 w w' : World} {P : Pt} {t s : Int} {v u : Value} {a b : Ac}
end
end Go.Proofs.YtngnenbidpojeaaGreatDoor
/-
  New of an actor, and the document's.
-/
namespace Go.Proofs.YtngnenbidpojeaaGreatDoor
set_option maxRecDepth 100000
open Go.RowKit
set_option linter.unusedVariables false
section
variable {w0 w w' : World}
theorem new13 (key : List UInt8) (h : isKey key = true) (hs : w0.heap.size ≤ w.heap.size) : Calls Tryz.prog 18 #[Sv key] w fun e w' => ∃ p pj pi po, e = .returned (.tuple #[Ptr p, .int .i64 0]) ∧ PA w0 w' p pj pi po 0 (.slice none 0 0) (newA key) ∧ Kept [] w w' := by
  have HN := Hid.mk (new11 (w := w) key h)
  go_enter Tryz.func18, Tryz.ntmps18
  go_wp2_with fail
  refine HN.out.mono ?_
  rintro e w1 ⟨po, rfl, hO, k1, hpo⟩
  clear HN
  go_wp2_with fail
  refine (new11_J (w := w1)).mono ?_
  rintro e w2 ⟨pj, rfl, hJ, k2, hpj⟩
  go_wp2_with fail
  refine (new10 (w := w2)).mono ?_
  rintro e w3 ⟨rfl, hB, k3, hz⟩
  go_wp2_with fail
  go_ret2
  obtain ⟨w4, e4, k4, z4, b4⟩ := box1 w3 (.cells #[Ptr pj, Ptr w2.heap.size, Ptr po, Iv 0, .slice none 0 0] 66)
  rw [e4]
  rw [hz] at b4
  have s1 := k1.size
  have s2 := k2.size
  exact ⟨w2.heap.size + 1, pj, w2.heap.size, po, rfl, ⟨b4, (hJ.kept0 k3).kept0 k4, ⟨[], hB.kept0 k4, rfl⟩, ⟨[], ((hO.kept0 k2).kept0 k3).kept0 k4, rfl⟩, by omega, by omega, by omega, by omega⟩, ((k1.trans k2 (by simp)).trans k3 (by simp)).trans k4 (by simp)⟩
end
end Go.Proofs.YtngnenbidpojeaaGreatDoor
/-
  Of: both actors, made of letters, sends, events, tries and poison.
-/
namespace Go.Proofs.YtngnenbidpojeaaGreatDoor
set_option maxRecDepth 100000
open Go.RowKit
set_option linter.unusedVariables false
/-- Cells of an actor's block are other ones. -/
theorem TT.set {w0 w : World} {p i : Nat} {cs : Array Value} {t : Nat} (hb : w.heap[p]? = some (.cells cs t (0, 0))) (hp : w0.heap.size ≤ p) (x : Value) : TT [t] w0 w (w.setCell ⟨p, i, none⟩ x) :=
  ⟨[p], (Kept.refl [p] w).setCell (p := ⟨p, i, none⟩) (.inl (by simp)) x, fun g hg => by simp at hg; subst hg; exact ⟨hp, _, _, hb, by simp⟩⟩
section
variable {w0 w w' : World} {P : Pt} {t s : Int} {v u : Value} {a b : Ac}
end
/-- An actor's poison lies at v. -/
def PoiAt (w : World) (v : Value) (ps : List Lt) : Prop := ∃ qs, RowQ w v qs ∧ ValsQ w qs ∧ qs.map (·.x) = ps
theorem PoiAt.kept0 {w w' : World} {v : Value} {ps : List Lt} (h : PoiAt w v ps) (k : Kept [] w w') : PoiAt w' v ps := by
  obtain ⟨qs, h1, h2, h3⟩ := h
  exact ⟨qs, h1.kept k (by simp), h2.kept0 k, h3⟩
end Go.Proofs.YtngnenbidpojeaaGreatDoor
/-
  Letters, numbers, programs as lists, without memory: their texts and bytes, there and back.
-/
namespace Go.Proofs.YtngnenbidpojeaaGreatDoor
set_option linter.unusedVariables false
end Go.Proofs.YtngnenbidpojeaaGreatDoor
namespace Go.Proofs.YtngnenbidpojeaaGreatDoor
set_option linter.unusedVariables false
end Go.Proofs.YtngnenbidpojeaaGreatDoor
namespace Go.Proofs.YtngnenbidpojeaaGreatDoor
set_option linter.unusedVariables false
end Go.Proofs.YtngnenbidpojeaaGreatDoor
namespace Go.Proofs.YtngnenbidpojeaaGreatDoor
open Go.Lib (decDigits itoa)
set_option linter.unusedVariables false
/-- The operations' words, and what their integers are. -/
def words : List (List UInt8 × Nat) := [([104, 97, 108, 116], 0), ([112, 117, 115, 104], 1), ([108, 111, 97, 100], 2), ([115, 116, 111, 114, 101], 2), ([97, 114, 103], 3), ([107, 105, 110, 100], 0), ([97, 100, 100], 0), ([115, 117, 98], 0), ([109, 117, 108], 0), ([108, 101, 115, 115], 0), ([101, 113, 117, 97, 108], 0), ([110, 111, 116], 0), ([100, 117, 112], 0), ([100, 114, 111, 112], 0), ([115, 119, 97, 112], 0), ([106, 117, 109, 112], 4), ([106, 117, 109, 112, 122], 4), ([115, 101, 110, 100], 5), ([114, 101, 112, 108, 121], 0), ([114, 101, 109, 105, 110, 100], 5), ([99, 97, 110, 99, 101, 108], 5), ([102, 97, 105, 108], 0), ([110, 111, 119], 0), ([115, 101, 114, 105, 97, 108], 0)]
theorem words_length : words.length = 24 := rfl
end Go.Proofs.YtngnenbidpojeaaGreatDoor
namespace Go.Proofs.YtngnenbidpojeaaGreatDoor
open Go.Lib (decDigits itoa)
set_option linter.unusedVariables false
/-- An instruction: an operation's number and an integer. -/
structure In where
  op : Int
  arg : Int
instance : Inhabited In := ⟨⟨0, 0⟩⟩
/-- A program. -/
structure Pg where
  names : List (List UInt8)
  code : List In
/-- What a line is. -/
inductive Ln where
  | nm (k : List UInt8)
  | ins (op : Nat) (arg : Int)
/-- The word name, and a blank. -/
def nameB : List UInt8 := [110, 97, 109, 101, 32]
/-- The most that an integer may be, by what it is. -/
def mostI (nn nc : Nat) (k : Nat) : Int := if k = 0 then 0 else if k = 2 then 7 else if k = 3 then 3 else if k = 4 then (nc : Int) else (nn : Int) - 1
def okI (nn nc : Nat) (x : In) : Bool := match words[x.op.toNat]? with
  | some (w, k) => decide (0 ≤ x.op) && (decide (k = 1) || (decide (0 ≤ x.arg) && decide (x.arg ≤ mostI nn nc k)))
  | none => false
/-- A program is formed. -/
def formedP (p : Pg) : Bool := decide (p.names.length ≤ 8) && decide (p.code.length ≤ 200) && p.names.all isKey && p.code.all (okI p.names.length p.code.length)
/-- Its integers are of 64 bits. -/
def OkP (p : Pg) : Prop := ∀ x ∈ p.code, I64 x.arg
theorem formed_parts {p : Pg} (h : formedP p = true) : p.names.length ≤ 8 ∧ p.code.length ≤ 200 ∧ (∀ k ∈ p.names, isKey k = true) ∧ ∀ x ∈ p.code, okI p.names.length p.code.length x = true := by
  unfold formedP at h
  simp only [Bool.and_eq_true, decide_eq_true_eq, List.all_eq_true] at h
  exact ⟨h.1.1.1, h.1.1.2, h.1.2, h.2⟩
end Go.Proofs.YtngnenbidpojeaaGreatDoor
namespace Go.Proofs.YtngnenbidpojeaaGreatDoor
set_option linter.unusedVariables false
end Go.Proofs.YtngnenbidpojeaaGreatDoor
namespace Go.Proofs.YtngnenbidpojeaaGreatDoor
open Go.Lib (decDigits itoa)
set_option linter.unusedVariables false
end Go.Proofs.YtngnenbidpojeaaGreatDoor
namespace Go.Proofs.YtngnenbidpojeaaGreatDoor
open Go.Lib (decDigits itoa)
set_option linter.unusedVariables false
end Go.Proofs.YtngnenbidpojeaaGreatDoor
namespace Go.Proofs.YtngnenbidpojeaaGreatDoor
set_option linter.unusedVariables false
end Go.Proofs.YtngnenbidpojeaaGreatDoor
