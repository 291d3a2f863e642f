import Derived.Deep.Slices
import Derived.ChangeArms
import Derived.OpenShut
import Derived.SizedLaws
import Derived.Deep.RegionLaw
import Derived.ChangeKeysEq
import Derived.Deep.QuietTactic
import Derived.BigQuiet
import Derived.WalkKit
import Derived.Deep.AppendLies
import Derived.Lib.AppendStr
import Derived.Laws.IdiomStrings
import Derived.OneCell
import Derived.KernelRfl
import Derived.IntWalk
import Derived.Lib.ItoaMem
import Derived.Lib.ParseIntBTie
import Derived.Lib.CutLaws
import Derived.Test.YtngnenbidpojeaaDoorW01
import Derived.Test.YtngnenbidpojeaaDoorW02
import Derived.Test.YtngnenbidpojeaaDoorW03
import Derived.Test.YtngnenbidpojeaaDoorW04
import Derived.Test.YtngnenbidpojeaaDoorW05
import Derived.Test.YtngnenbidpojeaaDoorW06
import Derived.Test.YtngnenbidpojeaaDoorW07
import Derived.Test.YtngnenbidpojeaaDoorW08
import Derived.Test.YtngnenbidpojeaaDoorW09
import Derived.Test.YtngnenbidpojeaaDoorW14
import Derived.Test.YtngnenbidpojeaaDoorW15
import Derived.Test.YtngnenbidpojeaaDoorW17
import Derived.Test.YtngnenbidpojeaaDoorW18
import Derived.Test.YtngnenbidpojeaaDoorW19
/-
  Letters that came in, opened.
-/
namespace Go.Proofs.YtngnenbidpojeaaDoor
set_option maxRecDepth 100000
open Go.RowKit Go.Deep Go.ChangeShapes
set_option linter.unusedVariables false
theorem addr_add_add (a : Addr) (i j : Nat) : (a.add i).add j = a.add (i + j) := by
  obtain ⟨b, o, s⟩ := a
  unfold Addr.add
  by_cases hi : i = 0
  · by_cases hj : j = 0
    · simp [hi, hj]
    · simp [hi, hj]
  · by_cases hj : j = 0
    · simp [hi, hj]
    · simp [hi, hj, Nat.add_assoc]
theorem readsJ_of_row (W : World) (x : Addr) (zs : List Int) {len cap : Nat} (hl : len ≤ cap) (hm : cap ≤ maxLen) (hz : zs.length = cap) (hcell : ∀ i, i < zs.length → W.cell? (x.add i) = some (.int .i64 (zs.getD i 0))) (hwz : ∀ n ∈ zs, (Lit.int .i64 n).wf = true) :
    ∃ l, ReadsJ W (.slice (some x) len cap) l ∧ (∀ z ∈ l, I64 z) ∧ l.length = len := by
  have hlen : (zs.take len).length = len := by rw [List.length_take]; omega
  refine ⟨zs.take len, ⟨some x, cap, by rw [CJ_length, hlen], by rw [CJ_length]; omega, hm, by simp, fun hne => ?_⟩, fun z hz => bounds_i64 (hwz z (List.mem_of_mem_take hz)), hlen⟩
  have hpos : 0 < len := by
    rcases Nat.eq_zero_or_pos len with h | h
    · subst h; simp [CJ] at hne
    · exact h
  obtain ⟨b, o, spot⟩ := x
  have hc := hcell 0 (by omega)
  have hspot : spot = none := by simpa [Addr.add] using World.cell?_spot hc
  subst hspot
  refine ⟨b, o, rfl, fun j r hr i y hy => ?_⟩
  simp only [CJ, List.getElem?_map, Option.map_eq_some_iff] at hr
  obtain ⟨z, hz1, rfl⟩ := hr
  have hi : i = 0 := by
    have := (List.getElem?_eq_some_iff.1 hy).1
    simp at this
    exact this
  subst hi
  simp at hy
  subst hy
  have hj : j < len := by
    have := (List.getElem?_eq_some_iff.1 hz1).1
    rw [List.length_take] at this; omega
  rw [List.getElem?_take_of_lt hj] at hz1
  have h := hcell j (by omega)
  rw [add_at] at h
  rw [Nat.mul_one, Nat.add_zero, h]
  have hzz : zs.getD j 0 = z := by simp [List.getD, hz1]
  rw [hzz]
set_option maxRecDepth 100000 in
/-- A letter that came in. -/
theorem open_let {H : Type} {enc : TypeId × Value → H} {W : World} {fuel : Nat} {cs : List Value} {x : DataW H × List MemPlace} (h : DataW.trod enc Tryd.prog W 0 (fun _ => true) true fuel 25 cs = some x) (hl : cs.length = 4) :
    ∃ q : Lq, cs = cellsQ q ∧ ReadsJ W q.sl q.x.args ∧ q.x.ok := by
  obtain ⟨xs, k, hk, hxy, _, hxl, hf⟩ := DataW.trod_struct Tryd.underlying25 h
  match xs, hxl, cs, hl with
  | [y0, y1, y2, y3], _, [v0, v1, v2, v3], _ =>
    have g0 := hf 0 _ rfl
    have g1 := hf 1 _ rfl
    have g2 := hf 2 _ rfl
    have g3 := hf 3 _ rfl
    simp [show Tryd.prog.cellsOf 9 = 1 by kernel_rfl, show Tryd.prog.cellsOf 22 = 1 by kernel_rfl, show Tryd.prog.cellsOf 2 = 1 by kernel_rfl, show Tryd.prog.cellsOf 23 = 1 by kernel_rfl] at g0 g1 g2 g3
    obtain ⟨s, e0, f0, w0⟩ := DataW.trod_string Tryd.underlying9 g0
    obtain ⟨n, e1, f1, w1⟩ := DataW.trod_int Tryd.underlying22 g1
    obtain ⟨kd, e2, f2, w2⟩ := DataW.trod_int Tryd.underlying2 g2
    simp at e0 e1 e2
    subst e0 e1 e2
    have b1 := bounds_u64 w1
    have b2 := bounds_i64 w2
    obtain ⟨m, rfl⟩ := Int.eq_ofNat_of_zero_le b1.1
    have hs : Sv s.data.toList = .string s := by
      obtain ⟨d⟩ := s
      simp
    have fin : ∀ B, ReadsJ W v3 B → (∀ z ∈ B, I64 z) → ∃ q : Lq, [Value.string s, .int .u64 (m : Int), .int .i64 kd, v3] = cellsQ q ∧ ReadsJ W q.sl q.x.args ∧ q.x.ok := fun B hB hBl => by
      obtain ⟨a', c', rfl, _⟩ := hB.form
      exact ⟨⟨⟨s.data.toList, m, kd, B⟩, a', c'⟩, by rw [← hs]; rfl, hB, ⟨by show m < _; omega, b2, hBl⟩⟩
    rcases open_ints Tryd.underlying23 Tryd.underlying2 (by kernel_rfl) g3 with ⟨hcs3, hx3⟩ | ⟨y, l, c, zs, hcs3, _, hl3, hm3, hz, hx3, hcell3, hwz⟩
    · simp at hcs3
      subst hcs3
      exact fin [] (ReadsJ.nil W) (by simp)
    · simp at hcs3
      subst hcs3
      obtain ⟨B, hB, hBl, _⟩ := readsJ_of_row W y zs hl3 hm3 (by simpa using hz) hcell3 hwz
      exact fin B hB hBl
/-- Letters that came in. -/
def LetsIn (W : World) (v : Value) (l : List Lq) : Prop := RowQ W v l ∧ ValsQ W l ∧ ∀ q ∈ l, q.x.ok
end Go.Proofs.YtngnenbidpojeaaDoor
/-
  Rows of events, and lists of such rows, that came in.
-/
namespace Go.Proofs.YtngnenbidpojeaaDoor
set_option maxRecDepth 100000
open Go.RowKit Go.Deep Go.ChangeShapes
set_option linter.unusedVariables false
/-- An event's integers are of 64 bits. -/
def E64 (e : Ep) : Prop := I64 e.1 ∧ I64 e.2
/-- Events that came in. -/
def EvsIn (W : World) (v : Value) (l : List Ep) : Prop := ReadsR 2 W v (CE l) ∧ ∀ e ∈ l, E64 e
theorem EvsIn.kept {W W' : World} {v : Value} {l : List Ep} (h : EvsIn W v l) (k : Kept [] W W') : EvsIn W' v l := ⟨ReadsR.kept h.1 k (by simp), h.2⟩
section
variable {w : World}
end
end Go.Proofs.YtngnenbidpojeaaDoor
/-
  theirs; one journal of the program's since a world; awake.
-/
namespace Go.Proofs.YtngnenbidpojeaaDoor
set_option maxRecDepth 100000
open Go.RowKit
set_option linter.unusedVariables false
section
variable {w : World}
end
theorem index29 {A : List Int} {i : Nat} {x : Int} (ha : A.length = 8) (h : A[i]? = some x) (W : World) : (Instr.index 58 (.agg (BI A).toArray) (.int .i64 (i : Int))).run Tryd.prog W = .ok (Iv x) W := by
  have hs : (sizeOf 2).run Tryd.prog W = .ok 1 W := by kernel_rfl
  have hc : (BI A)[i]? = some (Iv x) := BI_get h
  simp [Instr.index, run_underlying Tryd.underlying58, asIntOf, hs, part, go_sem, hc]
  intro h8
  have := get_lt h
  omega
theorem toE_ok {e : Ep} (h : badE e = false) (h6 : E64 e) : (toE e).r ≤ 7 ∧ I64 (toE e).v := by
  have := badE_no h
  exact ⟨by show e.1.toNat ≤ 7; omega, h6.2⟩
theorem GoodJ.addR {j : Jn} (h : GoodJ j) {l : List Ep} (h6 : ∀ e ∈ l, E64 e) (hv : j.ver + l.length < 18446744073709551616) : GoodJ (addR j l) := by
  unfold YtngnenbidpojeaaDoor.addR
  split
  · exact h
  · rename_i ha
    refine GoodJ.addA h (fun e he => ?_) (by rw [List.length_map]; exact hv)
    obtain ⟨x, hx, rfl⟩ := List.mem_map.1 he
    refine toE_ok ?_ (h6 x hx)
    cases hb : badE x with
    | false => rfl
    | true => exact absurd (List.any_eq_true.2 ⟨x, hx, hb⟩) ha
section
variable {w0 w w' : World} {p : Nat} {j : Jn}
end
end Go.Proofs.YtngnenbidpojeaaDoor
/-
  same: a journal of the program's held against the document's.
-/
namespace Go.Proofs.YtngnenbidpojeaaDoor
set_option maxRecDepth 100000
open Go.RowKit
set_option linter.unusedVariables false
/-- A world that kept all of another. -/
structure KW (a : World) where
  w : World
  k : Kept [] a w
instance (a : World) : Nonempty (KW a) := ⟨⟨a, Kept.refl [] a⟩⟩
theorem calls_kw {P : Program} {f : FuncId} {args : Array Value} {v : Value} {a : World} {z : KW a} (h : Calls P f args z.w fun e w' => e = .returned v ∧ Kept [] z.w w') : Calls P f args z.w fun e w'' => e = .returned v ∧ ∃ z' : KW a, w'' = z'.w :=
  h.mono fun e w'' h => ⟨h.1, ⟨w'', z.k.trans h.2 (by simp)⟩, rfl⟩
theorem wp_region_kw {P : Program} {C : World → Prop} {id : Nat} {Q : Exit → Act → World → Prop} {a : Act} {w : World} {l : List Oper} (hm : P.follows .mixedOrders = true) (hB : Region.lexB .any l.toArray = true) (hC : C w.drew)
    (h : wpQuiet P l.toArray C (fun a' => ∀ w', C w' → Q .normal a' w') l a) : (Code.region id l.toArray true).wp P Q a w :=
  wp_region_quiet (C := C) hm hB hC (by simpa using h)
section
variable {w : World} {p f : Nat} {v : Value} {j : Jn}
end
end Go.Proofs.YtngnenbidpojeaaDoor
/-
  An actor in memory, the program's and the document's, side by side, while they are made.
-/
namespace Go.Proofs.YtngnenbidpojeaaDoor
set_option maxRecDepth 100000
open Go.RowKit
set_option linter.unusedVariables false
/-- Blocks of these types alone, new since w0, are other ones. -/
def TT (ts : List Nat) (w0 w w' : World) : Prop := ∃ S, Kept S w w' ∧ ∀ g ∈ S, w0.heap.size ≤ g ∧ ∃ cs t, w.heap[g]? = some (.cells cs t (0, 0)) ∧ t ∈ ts
section
variable {w0 w w' : World} {ts : List Nat}
theorem TT.of0 (k : Kept [] w w') : TT ts w0 w w' := ⟨[], k, by simp⟩
theorem TT.kept0 (T : TT ts w0 w w') (k : Kept [] w0 w) : Kept [] w0 w' := by
  obtain ⟨S, kS, hS⟩ := T
  exact k.trans kS (fun x hx => .inr (hS x hx).1)
theorem TT.ne {S : List Nat} (hS : ∀ g ∈ S, w0.heap.size ≤ g ∧ ∃ cs t, w.heap[g]? = some (.cells cs t (0, 0)) ∧ t ∈ ts) {g : Nat} {cs : Array Value} {t : TypeId} {fz : Nat × Nat} (h : w.heap[g]? = some (.cells cs t fz)) (ht : t ∉ ts) : g ∉ S := fun hm => by
  obtain ⟨-, cs', t', h', ht'⟩ := hS g hm
  rw [h] at h'
  injection h' with h'
  injection h' with _ e
  subst e
  exact ht ht'
theorem TT.box (T : TT ts w0 w w') {g : Nat} {cs : Array Value} {t : TypeId} {fz : Nat × Nat} (h : w.heap[g]? = some (.cells cs t fz)) (ht : t ∉ ts) : w'.heap[g]? = some (.cells cs t fz) := by
  obtain ⟨S, kS, hS⟩ := T
  exact kS.keeps h (TT.ne hS h ht)
theorem TT.neR {S : List Nat} (hS : ∀ g ∈ S, w0.heap.size ≤ g ∧ ∃ cs t, w.heap[g]? = some (.cells cs t (0, 0)) ∧ t ∈ ts) {e : TypeId} {k : Nat} {v : Value} {rs : List (List Value)} (h : OwnsR e k w v rs) (ht : e ∉ ts) : ∀ g, v.ownBlock = some g → g ∉ S := fun g hg => by
  rcases ownR_form h with ⟨rfl, -⟩ | ⟨g1, cap, cur, rfl, hb⟩
  · simp [Value.ownBlock] at hg
  · simp [Value.ownBlock] at hg
    subst hg
    exact TT.ne hS hb ht
theorem TT.neJ {S : List Nat} (hS : ∀ g ∈ S, w0.heap.size ≤ g ∧ ∃ cs t, w.heap[g]? = some (.cells cs t (0, 0)) ∧ t ∈ ts) {v : Value} {l : List Int} (h : OwnsJ w v l) (ht : (2 : Nat) ∉ ts) : ∀ g, v.ownBlock = some g → g ∉ S := fun g hg => by
  obtain ⟨cs, hb⟩ := ownsJ_type h hg
  exact TT.ne hS hb ht
theorem TT.isJ {p : Nat} {j : Jn} (T : TT ts w0 w w') (h : IsJ w p j) (ht : (85 : Nat) ∉ ts) : IsJ w' p j := by
  obtain ⟨S, kS, hS⟩ := T
  exact h.kept kS (TT.ne hS h.isP.box ht)
theorem TT.isB {p : Nat} {qs : List Lq} (T : TT ts w0 w w') (h : IsB w p qs) (ht : (67 : Nat) ∉ ts) (h2 : (2 : Nat) ∉ ts) : IsB w' p qs := by
  obtain ⟨S, kS, hS⟩ := T
  exact h.kept kS (TT.ne hS h.box ht) fun q hq => TT.neJ hS (h.args q hq) h2
theorem TT.isO {p : Nat} {own : List UInt8} {K : List La} {qs : List Yq} (T : TT ts w0 w w') (h : IsO w p own K qs) (ht : (94 : Nat) ∉ ts) (h2 : (2 : Nat) ∉ ts) : IsO w' p own K qs := by
  obtain ⟨S, kS, hS⟩ := T
  obtain ⟨cs, hb⟩ := h.bx
  exact h.kept kS (TT.ne hS hb ht) fun q hq => TT.neJ hS (h.args q hq) h2
theorem TT.ofJ {p : Nat} {j : Jn} (h : IsJ w p j) (hp : w0.heap.size ≤ p) (k : Kept [p] w w') : TT [85] w0 w w' :=
  ⟨[p], k, fun g hg => by simp at hg; subst hg; exact ⟨hp, _, _, h.isP.box, by simp⟩⟩
theorem TT.ofB {p : Nat} {qs : List Lq} (h : IsB w p qs) (hp : w0.heap.size ≤ p) (k : Kept [p] w w') : TT [67] w0 w w' :=
  ⟨[p], k, fun g hg => by simp at hg; subst hg; exact ⟨hp, _, _, h.box, by simp⟩⟩
theorem TT.ofO {p : Nat} {own : List UInt8} {K : List La} {qs : List Yq} (h : IsO w p own K qs) (hp : w0.heap.size ≤ p) (k : Kept [p] w w') : TT [94] w0 w w' := by
  obtain ⟨cs, hb⟩ := h.bx
  exact ⟨[p], k, fun g hg => by simp at hg; subst hg; exact ⟨hp, _, _, hb, by simp⟩⟩
end
/-- Where the parts of the two actors lie. -/
structure Pt where
  p : Nat
  j : Nat
  i : Nat
  o : Nat
  f : Nat
  fj : Nat
  fi : Nat
  fo : Nat
abbrev Ptr (g : Nat) : Value := .pointer (some ⟨g, 0, none⟩)
/-- The program's actor: its parts, its tries t, its poison's row v. -/
structure PA (w0 w : World) (p pj pi po : Nat) (t : Int) (v : Value) (a : Ac) : Prop where
  box : w.heap[p]? = some (.cells #[Ptr pj, Ptr pi, Ptr po, Iv t, v] 36 (0, 0))
  j : IsJ w pj a.j
  i : ∃ qs, IsB w pi qs ∧ qs.map (·.x) = a.inb
  o : ∃ ys, IsO w po a.out.own a.out.K ys ∧ ys.map ot = a.out.L
  hp : w0.heap.size ≤ p
  hj : w0.heap.size ≤ pj
  hi : w0.heap.size ≤ pi
  ho : w0.heap.size ≤ po
section
variable {w0 w w' : World} {p pj pi po f fj fi fo : Nat} {t : Int} {v : Value} {a b : Ac} {ts : List Nat}
theorem PA.turn (h : PA w0 w p pj pi po t v a) (T : TT ts w0 w w') (ht : ∀ x ∈ [36, 85, 67, 94, 2], x ∉ ts) : PA w0 w' p pj pi po t v a := by
  obtain ⟨h1, h2, ⟨qs, h3, h4⟩, ⟨ys, h5, h6⟩, h7, h8, h9, h10⟩ := h
  exact ⟨T.box h1 (ht _ (by simp)), T.isJ h2 (ht _ (by simp)), ⟨qs, T.isB h3 (ht _ (by simp)) (ht _ (by simp)), h4⟩, ⟨ys, T.isO h5 (ht _ (by simp)) (ht _ (by simp)), h6⟩, h7, h8, h9, h10⟩
theorem PA.kept0 (h : PA w0 w p pj pi po t v a) (k : Kept [] w w') : PA w0 w' p pj pi po t v a := h.turn (ts := []) (TT.of0 k) (by simp)
end
section
variable {w0 w w' : World} {P : Pt} {t s : Int} {v u : Value} {a b : Ac}
theorem pushL_good {l : List Lt} {x : Lt} (h8 : l.length ≤ 8) (hl : ∀ y ∈ l, y.ok ∧ y.formed = true) (hx : x.ok) : (pushL l x).length ≤ 8 ∧ ∀ y ∈ pushL l x, y.ok ∧ y.formed = true := by
  unfold pushL
  split
  · rename_i h
    refine ⟨by rw [List.length_append]; simp; omega, fun y hy => ?_⟩
    rcases List.mem_append.1 hy with h1 | h1
    · exact hl y h1
    · simp at h1; subst h1; exact ⟨hx, h.1⟩
  · exact ⟨h8, hl⟩
/-- A letter that is pushed. -/
def pushAc (a : Ac) (x : Lt) : Ac := ⟨a.j, pushL a.inb x, a.out, a.tries, a.poi⟩
theorem GoodP.push (h : GoodP a) {x : Lt} (hx : x.ok) : GoodP (pushAc a x) :=
  ⟨h.j, (pushL_good h.i8 h.inb hx).1, (pushL_good h.i8 h.inb hx).2, h.out, h.poi⟩
end
/-- What a Send leaves. -/
def sndO (o : Ob) (to : List UInt8) (kind : Int) (args : List Int) : Ob :=
  if isKey to = true ∧ args.length ≤ 4 ∧ o.L.length ≠ 32 ∧ (hasK o.K to = true ∨ o.K.length ≠ 64) then sendO o to kind args else o
/-- No serial is above B. -/
def SerB (o : Ob) (B : Nat) : Prop := ∀ y ∈ o.K, y.s ≤ B
theorem SerB.le {o : Ob} {B : Nat} (h : SerB o B) (to : List UInt8) : ser o.K to ≤ B := by
  cases hk : hasK o.K to with
  | false => rw [(has_not hk).1]; omega
  | true =>
    obtain ⟨s, h1, h2⟩ := has_at hk
    rw [h2]
    exact h _ (List.mem_of_getElem? h1)
theorem SerB.snd {o : Ob} {B : Nat} (h : SerB o B) (to : List UInt8) (kind : Int) (args : List Int) : SerB (sndO o to kind args) (B + 1) := by
  unfold sndO
  split
  · intro y hy
    rcases setK_mem hy with rfl | hy
    · show ser o.K to + 1 ≤ _
      have := h.le to
      omega
    · have := h y hy
      omega
  · intro y hy
    have := h y hy
    omega
theorem GoodO.snd {o : Ob} (g : GoodO o) {B : Nat} (hB : SerB o B) (h6 : B < 4611686018427387904) {to : List UInt8} {kind : Int} {args : List Int} (hk : I64 kind) (ha : ∀ z ∈ args, I64 z) : GoodO (sndO o to kind args) := by
  unfold sndO
  split
  · rename_i h
    have h3 := g.ln
    have h4 := g.kn
    have h5 := hB.le to
    refine g.send h.1 hk ha h.2.1 (by omega) ?_ (by show _ < _; omega)
    rcases h.2.2.2 with h | h
    · exact .inl h
    · right; omega
  · exact g
section
variable {w0 w w' : World} {P : Pt} {t s : Int} {v u : Value} {a b : Ac}
def sendAc (a : Ac) (to : List UInt8) (kind : Int) (args : List Int) : Ac := ⟨a.j, a.inb, sndO a.out to kind args, a.tries, a.poi⟩
def addAc (a : Ac) (l : List Ep) : Ac := ⟨addR a.j l, a.inb, a.out, a.tries, a.poi⟩
end
end Go.Proofs.YtngnenbidpojeaaDoor
/-
  New of an actor, and the document's.
-/
namespace Go.Proofs.YtngnenbidpojeaaDoor
set_option maxRecDepth 100000
open Go.RowKit
set_option linter.unusedVariables false
section
variable {w0 w w' : World}
theorem new13 (key : List UInt8) (h : isKey key = true) (hs : w0.heap.size ≤ w.heap.size) : Calls Tryd.prog 6 #[Sv key] w fun e w' => ∃ p pj pi po, e = .returned (.tuple #[Ptr p, .int .i64 0]) ∧ PA w0 w' p pj pi po 0 (.slice none 0 0) (newA key) ∧ Kept [] w w' := by
  have HN := Hid.mk (new11 (w := w) key h)
  go_enter Tryd.func6, Tryd.ntmps6
  go_wp2_with fail
  refine HN.out.mono ?_
  rintro e w1 ⟨po, rfl, hO, k1, hpo⟩
  clear HN
  go_wp2_with fail
  refine (new11_J (w := w1)).mono ?_
  rintro e w2 ⟨pj, rfl, hJ, k2, hpj⟩
  go_wp2_with fail
  refine (new10 (w := w2)).mono ?_
  rintro e w3 ⟨rfl, hB, k3, hz⟩
  go_wp2_with fail
  go_ret2
  obtain ⟨w4, e4, k4, z4, b4⟩ := box1 w3 (.cells #[Ptr pj, Ptr w2.heap.size, Ptr po, Iv 0, .slice none 0 0] 36)
  rw [e4]
  rw [hz] at b4
  have s1 := k1.size
  have s2 := k2.size
  exact ⟨w2.heap.size + 1, pj, w2.heap.size, po, rfl, ⟨b4, (hJ.kept0 k3).kept0 k4, ⟨[], hB.kept0 k4, rfl⟩, ⟨[], ((hO.kept0 k2).kept0 k3).kept0 k4, rfl⟩, by omega, by omega, by omega, by omega⟩, ((k1.trans k2 (by simp)).trans k3 (by simp)).trans k4 (by simp)⟩
end
end Go.Proofs.YtngnenbidpojeaaDoor
/-
  Of: both actors, made of letters, sends, events, tries and poison.
-/
namespace Go.Proofs.YtngnenbidpojeaaDoor
set_option maxRecDepth 100000
open Go.RowKit
set_option linter.unusedVariables false
/-- Cells of an actor's block are other ones. -/
theorem TT.set {w0 w : World} {p i : Nat} {cs : Array Value} {t : Nat} (hb : w.heap[p]? = some (.cells cs t (0, 0))) (hp : w0.heap.size ≤ p) (x : Value) : TT [t] w0 w (w.setCell ⟨p, i, none⟩ x) :=
  ⟨[p], (Kept.refl [p] w).setCell (p := ⟨p, i, none⟩) (.inl (by simp)) x, fun g hg => by simp at hg; subst hg; exact ⟨hp, _, _, hb, by simp⟩⟩
section
variable {w0 w w' : World} {P : Pt} {t s : Int} {v u : Value} {a b : Ac}
end
/-- The first k letters are pushed. -/
def pushK (a : Ac) (ls : List Lq) : Nat → Ac
  | 0 => a
  | k + 1 => pushAc (pushK a ls k) (ls.getD k default).x
/-- The first k texts are sent to. -/
def sendK (a : Ac) (ts : List (List UInt8)) : Nat → Ac
  | 0 => a
  | k + 1 => sendAc (sendK a ts k) (ts.getD k []) k [k]
/-- The actor that Of makes. -/
def ofA (key : List UInt8) (ls : List Lq) (ts : List (List UInt8)) (es : List Ep) (t : Int) (ps : List Lt) : Ac :=
  let a := addAc (sendK (pushK (newA key) ls ls.length) ts ts.length) es
  ⟨a.j, a.inb, a.out, t, ps⟩
/-- An actor's poison lies at v. -/
def PoiAt (w : World) (v : Value) (ps : List Lt) : Prop := ∃ qs, RowQ w v qs ∧ ValsQ w qs ∧ qs.map (·.x) = ps
theorem PoiAt.kept0 {w w' : World} {v : Value} {ps : List Lt} (h : PoiAt w v ps) (k : Kept [] w w') : PoiAt w' v ps := by
  obtain ⟨qs, h1, h2, h3⟩ := h
  exact ⟨qs, h1.kept k (by simp), h2.kept0 k, h3⟩
/-- Texts that came in. -/
def TextsIn (w : World) (v : Value) (ts : List (List UInt8)) : Prop := ReadsR 1 w v (CT ts)
theorem TextsIn.bound {w : World} {a : Option Addr} {n c : Nat} {ts : List (List UInt8)} (h : TextsIn w (.slice a n c) ts) : n = ts.length ∧ n ≤ c ∧ c ≤ 9223372036854775807 := by
  obtain ⟨a', c', he, h1, h2, -⟩ := h
  injection he with e1 e2 e3
  subst e1 e2 e3
  rw [CT, List.length_map] at *
  exact ⟨rfl, h1, by unfold maxLen at h2; omega⟩
theorem TextsIn.at {w : World} {a : Option Addr} {n c : Nat} {ts : List (List UInt8)} (h : TextsIn w (.slice a n c) ts) {k : Nat} {t : List UInt8} (ht : ts[k]? = some t) : ∃ b o, a = some ⟨b, o, none⟩ ∧ w.cell? ⟨b, o + k, none⟩ = some (Sv t) := by
  obtain ⟨a', c', he, h1, h2, h3, h4⟩ := h
  injection he with e1 e2 e3
  subst e1 e2 e3
  have hne : CT ts ≠ [] := fun e => by
    simp [CT] at e
    subst e
    simp at ht
  obtain ⟨b, o, rfl, hc⟩ := h4 hne
  refine ⟨b, o, rfl, ?_⟩
  have := hc k [Sv t] (by simp [CT, ht]) 0 (Sv t) rfl
  simpa using this
theorem TextsIn.kept0 {w w' : World} {v : Value} {ts : List (List UInt8)} (h : TextsIn w v ts) (k : Kept [] w w') : TextsIn w' v ts := ReadsR.kept h k (by simp)
end Go.Proofs.YtngnenbidpojeaaDoor
/-
  Letters, numbers, programs as lists, without memory: their texts and bytes, there and back.
-/
namespace Go.Proofs.YtngnenbidpojeaaDoor
set_option linter.unusedVariables false
end Go.Proofs.YtngnenbidpojeaaDoor
namespace Go.Proofs.YtngnenbidpojeaaDoor
set_option linter.unusedVariables false
end Go.Proofs.YtngnenbidpojeaaDoor
namespace Go.Proofs.YtngnenbidpojeaaDoor
set_option linter.unusedVariables false
end Go.Proofs.YtngnenbidpojeaaDoor
namespace Go.Proofs.YtngnenbidpojeaaDoor
open Go.Lib (decDigits itoa)
set_option linter.unusedVariables false
/-- The operations' words, and what their integers are. -/
def words : List (List UInt8 × Nat) := [([104, 97, 108, 116], 0), ([112, 117, 115, 104], 1), ([108, 111, 97, 100], 2), ([115, 116, 111, 114, 101], 2), ([97, 114, 103], 3), ([107, 105, 110, 100], 0), ([97, 100, 100], 0), ([115, 117, 98], 0), ([109, 117, 108], 0), ([108, 101, 115, 115], 0), ([101, 113, 117, 97, 108], 0), ([110, 111, 116], 0), ([100, 117, 112], 0), ([100, 114, 111, 112], 0), ([115, 119, 97, 112], 0), ([106, 117, 109, 112], 4), ([106, 117, 109, 112, 122], 4), ([115, 101, 110, 100], 5), ([114, 101, 112, 108, 121], 0), ([114, 101, 109, 105, 110, 100], 5), ([99, 97, 110, 99, 101, 108], 5), ([102, 97, 105, 108], 0), ([110, 111, 119], 0), ([115, 101, 114, 105, 97, 108], 0)]
theorem words_length : words.length = 24 := rfl
end Go.Proofs.YtngnenbidpojeaaDoor
namespace Go.Proofs.YtngnenbidpojeaaDoor
open Go.Lib (decDigits itoa)
set_option linter.unusedVariables false
/-- An instruction: an operation's number and an integer. -/
structure In where
  op : Int
  arg : Int
instance : Inhabited In := ⟨⟨0, 0⟩⟩
/-- A program. -/
structure Pg where
  names : List (List UInt8)
  code : List In
/-- What a line is. -/
inductive Ln where
  | nm (k : List UInt8)
  | ins (op : Nat) (arg : Int)
/-- The word name, and a blank. -/
def nameB : List UInt8 := [110, 97, 109, 101, 32]
/-- The most that an integer may be, by what it is. -/
def mostI (nn nc : Nat) (k : Nat) : Int := if k = 0 then 0 else if k = 2 then 7 else if k = 3 then 3 else if k = 4 then (nc : Int) else (nn : Int) - 1
def okI (nn nc : Nat) (x : In) : Bool := match words[x.op.toNat]? with
  | some (w, k) => decide (0 ≤ x.op) && (decide (k = 1) || (decide (0 ≤ x.arg) && decide (x.arg ≤ mostI nn nc k)))
  | none => false
/-- A program is formed. -/
def formedP (p : Pg) : Bool := decide (p.names.length ≤ 8) && decide (p.code.length ≤ 200) && p.names.all isKey && p.code.all (okI p.names.length p.code.length)
/-- Its integers are of 64 bits. -/
def OkP (p : Pg) : Prop := ∀ x ∈ p.code, I64 x.arg
theorem formed_parts {p : Pg} (h : formedP p = true) : p.names.length ≤ 8 ∧ p.code.length ≤ 200 ∧ (∀ k ∈ p.names, isKey k = true) ∧ ∀ x ∈ p.code, okI p.names.length p.code.length x = true := by
  unfold formedP at h
  simp only [Bool.and_eq_true, decide_eq_true_eq, List.all_eq_true] at h
  exact ⟨h.1.1.1, h.1.1.2, h.1.2, h.2⟩
end Go.Proofs.YtngnenbidpojeaaDoor
namespace Go.Proofs.YtngnenbidpojeaaDoor
set_option linter.unusedVariables false
end Go.Proofs.YtngnenbidpojeaaDoor
namespace Go.Proofs.YtngnenbidpojeaaDoor
open Go.Lib (decDigits itoa)
set_option linter.unusedVariables false
end Go.Proofs.YtngnenbidpojeaaDoor
namespace Go.Proofs.YtngnenbidpojeaaDoor
open Go.Lib (decDigits itoa)
set_option linter.unusedVariables false
end Go.Proofs.YtngnenbidpojeaaDoor
namespace Go.Proofs.YtngnenbidpojeaaDoor
set_option linter.unusedVariables false
end Go.Proofs.YtngnenbidpojeaaDoor
