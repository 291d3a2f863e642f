import Derived.Test.YthlemapneangeaaV04
import Derived.Test.YthlemapneangeaaV05
import Derived.Test.YthlemapneangeaaV07
import Derived.Test.YthlemapneangeaaV10
import Derived.Test.YthlemapneangeaaV11
import Derived.Test.YthlemapneangeaaV12
/-
  The program's outbox and the document's, side by side.
-/
namespace Go.Proofs.Ythlemapneangeaa
set_option maxRecDepth 100000
open Go.RowKit
set_option linter.unusedVariables false
/-- What a call on an outbox may turn: blocks that are new since w0, of outboxes' own types. -/
def Turn (w0 w w' : World) : Prop := ∃ S, Kept S w w' ∧ ∀ g ∈ S, w0.heap.size ≤ g ∧ ∃ cs t, w.heap[g]? = some (.cells cs t (0, 0)) ∧ (t = 63 ∨ t = 74 ∨ t = 75 ∨ t = 90)
section
variable {w0 w w' : World} {p pf : Nat} {v u : Value} {own : List UInt8} {K : List La} {qs ms : List Yq}
theorem Turn.of0 (k : Kept [] w w') : Turn w0 w w' := ⟨[], k, by simp⟩
theorem Turn.kept0 (T : Turn w0 w w') (k : Kept [] w0 w) : Kept [] w0 w' := by
  obtain ⟨S, kS, hS⟩ := T
  exact k.trans kS (fun x hx => .inr (hS x hx).1)
theorem Turn.box (T : Turn w0 w w') {g : Nat} {cs : Array Value} {t : TypeId} (h : w.heap[g]? = some (.cells cs t (0, 0))) (ht : t ≠ 63 ∧ t ≠ 74 ∧ t ≠ 75 ∧ t ≠ 90) : w'.heap[g]? = some (.cells cs t (0, 0)) := by
  obtain ⟨S, kS, hS⟩ := T
  refine kS.keeps h (fun hm => ?_)
  obtain ⟨-, cs', t', h', ht'⟩ := hS g hm
  rw [h] at h'
  injection h' with h'
  injection h' with _ e
  subst e
  obtain ⟨a, b, c, d⟩ := ht
  rcases ht' with e | e | e | e
  · exact a e
  · exact b e
  · exact c e
  · exact d e
theorem Turn.ownsJ (T : Turn w0 w w') {x : Value} {l : List Int} (h : OwnsJ w x l) : OwnsJ w' x l := by
  obtain ⟨S, kS, hS⟩ := T
  refine h.kept kS (fun g hg hm => ?_)
  obtain ⟨-, cs', t', h', ht'⟩ := hS g hm
  exact ownsJ_ne h h' (by rcases ht' with rfl | rfl | rfl | rfl <;> decide) hg
theorem Turn.ofO (hB : IsO w p own K qs) (hp : w0.heap.size ≤ p) (k : Kept [p] w w') : Turn w0 w w' := by
  obtain ⟨cs, hb⟩ := hB.bx
  exact ⟨[p], k, fun g hg => by simp at hg; subst hg; exact ⟨hp, _, _, hb, .inl rfl⟩⟩
theorem Turn.ofF (hF : IsF w0 w pf v u own K ms) (k : Kept (footF pf v u) w w') : Turn w0 w w' := by
  refine ⟨_, k, fun g hg => ?_⟩
  rcases mem_footF.1 hg with h | h | h
  · subst h
    exact ⟨hF.fr, _, _, hF.box, .inr (.inl rfl)⟩
  · refine ⟨hF.ys.fr g h, ?_⟩
    rcases ownR_form hF.ys.own with ⟨rfl, -⟩ | ⟨g1, cap, cur, rfl, hb⟩
    · simp [Value.ownBlock] at h
    · simp [Value.ownBlock] at h
      subst h
      exact ⟨_, _, hb, .inr (.inr (.inl rfl))⟩
  · refine ⟨hF.fru g h, ?_⟩
    rcases ownR_form hF.ks with ⟨rfl, -⟩ | ⟨g1, cap, cur, rfl, hb⟩
    · simp [Value.ownBlock] at h
    · simp [Value.ownBlock] at h
      subst h
      exact ⟨_, _, hb, .inr (.inr (.inr rfl))⟩
end
/-- The program's outbox at p, the document's at pf: both are o; no serial above B. -/
structure Two (w0 w : World) (p pf : Nat) (o : Ob) (B : Nat) : Prop where
  isO : ∃ qs, IsO w p o.own o.K qs ∧ qs.map ot = o.L
  isF : ∃ v u ms, IsF w0 w pf v u o.own o.K ms ∧ ms.map ot = o.L
  hp : w0.heap.size ≤ p
  good : GoodO o
  bnd : ∀ y ∈ o.K, y.s ≤ B
section
variable {w0 w w' : World} {p pf : Nat} {o : Ob} {B : Nat}
theorem Two.kept0 (T : Two w0 w p pf o B) (k : Kept [] w w') : Two w0 w' p pf o B := by
  obtain ⟨⟨qs, hO, hq⟩, ⟨v, u, ms, hF, hm⟩, hp, g, b⟩ := T
  exact ⟨⟨qs, hO.kept0 k, hq⟩, ⟨v, u, ms, hF.kept0 k, hm⟩, hp, g, b⟩
theorem Two.mono {B' : Nat} (T : Two w0 w p pf o B) (h : B ≤ B') : Two w0 w p pf o B' := ⟨T.isO, T.isF, T.hp, T.good, fun y hy => Nat.le_trans (T.bnd y hy) h⟩
theorem GoodO.fit {qs : List Yq} (g : GoodO o) (h : qs.map ot = o.L) : Fitq qs := fun y hy => by
  have hm : ot y ∈ o.L := by rw [← h]; exact List.mem_map.2 ⟨y, hy, rfl⟩
  obtain ⟨h1, h2, h3, h4⟩ := g.lets _ hm
  obtain ⟨z, hz, e⟩ := (has_mem g.rise).1 h4
  have hk := (isKey_iff _).1 (g.key z hz).1
  have h2' : y.q.x.fr.length ≤ 40 ∧ y.q.x.args.length ≤ 4 := by have h3 := h2; simp only [ot, Lt.formed, Bool.and_eq_true] at h3; exact ⟨of_decide_eq_true h3.1, of_decide_eq_true h3.2⟩
  have e' : z.k = y.to := e
  rw [← e']
  omega
theorem GoodO.ne (g : GoodO o) : o.own ≠ [] ∧ o.own.length ≤ 40 := by
  have := (isKey_iff _).1 g.own
  refine ⟨fun e => ?_, this.2⟩
  rw [e] at this
  simp at this
theorem Two.serLe (T : Two w0 w p pf o B) (to : List UInt8) : ser o.K to ≤ B := by
  cases h : hasK o.K to with
  | false => rw [(has_not h).1]; omega
  | true =>
    obtain ⟨s, h1, h2⟩ := has_at h
    rw [h2]
    exact T.bnd _ (List.mem_of_getElem? h1)
theorem two_same (T : Two w0 w p pf o B) : Calls Try.prog 18 #[.pointer (some ⟨p, 0, none⟩), .pointer (some ⟨pf, 0, none⟩)] w fun e w' => e = .returned (.bool true) ∧ Kept [] w w' := by
  obtain ⟨⟨qs, hO, hq⟩, ⟨v, u, ms, hF, hm⟩, hp, g, b⟩ := T
  exact same18 hO hF (hq.trans hm.symm) (g.fit hq) g.rise (by have := g.ne; omega)
theorem two_ser22 (T : Two w0 w p pf o B) (to : List UInt8) : Calls Try.prog 22 #[.pointer (some ⟨p, 0, none⟩), Sv to] w fun e w' => e = .returned (Uv (ser o.K to)) ∧ Kept [] w w' := by
  obtain ⟨⟨qs, hO, hq⟩, ⟨v, u, ms, hF, hm⟩, hp, g, b⟩ := T
  exact serial22 hO g.rise to
theorem two_ser33 (T : Two w0 w p pf o B) (to : List UInt8) : Calls Try.prog 33 #[.pointer (some ⟨pf, 0, none⟩), Sv to] w fun e w' => e = .returned (Uv (ser o.K to)) ∧ Kept [] w w' := by
  obtain ⟨⟨qs, hO, hq⟩, ⟨v, u, ms, hF, hm⟩, hp, g, b⟩ := T
  obtain ⟨a, c, rfl, -, -⟩ := rowK_form hF.krow
  exact serial33 (cells3 hF.box).2.2 hF.krow to (by have := g.kn; omega)
theorem two_send (T : Two w0 w p pf o B) (k0 : Kept [] w0 w) (to : List UInt8) (kind : Int) (args : List Int) (a : Option Addr) (c : Nat) (hx : ReadsJ w0 (.slice a args.length c) args) (hto : to.length ≤ 1000) (hn : args.length ≤ 1000) (hk : I64 kind) (ha : ∀ z ∈ args, I64 z) (hB : B < 4611686018427387904) :
    Calls Try.prog 20 #[.pointer (some ⟨p, 0, none⟩), Sv to, .int .i64 kind, .slice a args.length c] w fun e w1 => ∃ (s : Nat) (er : Int) (o' : Ob), e = .returned (.tuple #[Uv s, .int .i64 er]) ∧ Turn w0 w w1 ∧ ∀ W, Kept [] w1 W → Calls Try.prog 29 #[.pointer (some ⟨pf, 0, none⟩), Sv to, .int .i64 kind, .slice a args.length c] W fun e' w2 => e' = .returned (.tuple #[Uv s, .int .i64 er]) ∧ Turn w0 W w2 ∧ Two w0 w2 p pf o' (B + 1) := by
  have T0 := T
  obtain ⟨⟨qs, hO, hq⟩, ⟨v, u, ms, hF, hm⟩, hp, g, b⟩ := T
  have hown : (!o.own.isEmpty) = true := by have := g.ne.1; cases h : o.own with | nil => exact absurd h this | cons _ _ => rfl
  have hql : qs.length = o.L.length := by rw [← hq, List.length_map]
  have hml : ms.length = o.L.length := by rw [← hm, List.length_map]
  by_cases h1 : isKey to = false ∨ 4 < args.length
  · refine (send20_arg to kind a args.length c _ (by omega) true (by have := owned34 hO; rwa [hown] at this) (by omega) (.inr h1)).mono ?_
    rintro e w1 ⟨rfl, rfl⟩
    refine ⟨0, 1, o, rfl, .of0 (Kept.refl [] _), fun W kW => ?_⟩
    refine (send29_arg to kind a args.length c _ (by omega) (by omega) h1).mono ?_
    rintro e w2 ⟨rfl, rfl⟩
    exact ⟨rfl, .of0 (Kept.refl [] _), (T0.kept0 kW).mono (by omega)⟩
  · have hkey : isKey to = true := by cases h : isKey to with | true => rfl | false => exact absurd (.inl h) h1
    have h4 : args.length ≤ 4 := by have : ¬ 4 < args.length := fun h => h1 (.inr h); omega
    by_cases h2 : o.L.length = 32 ∨ (hasK o.K to = false ∧ o.K.length = 64)
    · refine (send20_full hO g.rise g.ne.1 to kind a args.length c hkey h4 (by rw [hql]; exact h2)).mono ?_
      rintro e w1 ⟨rfl, k1⟩
      refine ⟨0, 6, o, rfl, .of0 k1, fun W kW => ?_⟩
      have kk := k1.trans kW (by simp)
      refine (send29_full (hF.kept0 kk) g.kn (by have := g.ln; omega) to kind a args.length c hkey h4 (by rw [hml]; exact h2)).mono ?_
      rintro e w2 ⟨rfl, rfl⟩
      exact ⟨rfl, .of0 (Kept.refl [] _), (T0.kept0 kk).mono (by omega)⟩
    · have h32 : o.L.length < 32 := by have := g.ln; have : o.L.length ≠ 32 := fun h => h2 (.inl h); omega
      have h64 : hasK o.K to = true ∨ o.K.length < 64 := by
        cases h : hasK o.K to with
        | true => exact .inl rfl
        | false => right; have := g.kn; have : o.K.length ≠ 64 := fun h' => h2 (.inr ⟨h, h'⟩); omega
      have hs := T0.serLe to
      refine (send20_ok hO g.rise g.ne.1 (by have := g.ne.2; omega) to ⟨o.own, ser o.K to + 1, kind, args⟩ a c hkey h4 (fun W kW => hx.kept ((k0.trans kW (fun x hx => .inr (by simp at hx; subst hx; exact hp)))) (by simp)) rfl rfl (by omega) h64 (by omega)).mono ?_
      rintro e w1 ⟨rfl, a1, c1, hO1, k1, hf1⟩
      refine ⟨ser o.K to + 1, 0, sendO o to kind args, rfl, .ofO hO hp k1, fun W kW => ?_⟩
      have hF1 := (hF.besides hO k1).kept0 kW
      have hOW := hO1.kept0 kW
      have kw0 : Kept [] w0 W := ((Turn.ofO hO hp k1).kept0 k0).trans kW (by simp)
      refine (send29_ok hF1 g.kn kw0.size to ⟨o.own, ser o.K to + 1, kind, args⟩ a c hkey h4 (fun W2 kW2 => hx.kept ((Turn.ofF hF1 kW2).kept0 kw0) (by simp)) rfl rfl (by omega) h64 (by omega)).mono ?_
      rintro e w2 ⟨rfl, v2, u2, a2, c2, hF2, k2⟩
      refine ⟨rfl, .ofF hF1 k2, ⟨⟨_, hOW.besides hF1 k2, ?_⟩, ⟨_, _, _, hF2, ?_⟩, hp, g.send hkey hk ha h4 h32 h64 (by show _ < _; omega), fun y hy => ?_⟩⟩
      · simp [sendO, hq, ot]
      · simp [sendO, hm, ot]
      · rcases setK_mem hy with rfl | hy
        · show ser o.K to + 1 ≤ _; omega
        · have := b y hy; omega
theorem two_pop (T : Two w0 w p pf o B) (k0 : Kept [] w0 w) :
    Calls Try.prog 19 #[.pointer (some ⟨p, 0, none⟩)] w fun e w1 => ∃ (to : List UInt8) (x : Lt) (bo : Bool) (a : Option Addr) (c : Nat) (o' : Ob), e = .returned (.tuple #[Yv to x a c, .bool bo]) ∧ OwnsJ w1 (.slice a x.args.length c) x.args ∧ x.args.length ≤ 1000 ∧ Turn w0 w w1 ∧ ∀ W, Kept [] w1 W → Calls Try.prog 30 #[.pointer (some ⟨pf, 0, none⟩)] W fun e' w2 => ∃ a' c', e' = .returned (.tuple #[Yv to x a' c', .bool bo]) ∧ OwnsJ w2 (.slice a' x.args.length c') x.args ∧ Turn w0 W w2 ∧ Two w0 w2 p pf o' B := by
  have T0 := T
  obtain ⟨⟨qs, hO, hq⟩, ⟨v, u, ms, hF, hm⟩, hp, g, b⟩ := T
  cases hL : o.L with
  | nil =>
    rw [hL] at hq hm
    obtain rfl : qs = [] := by simpa using hq
    obtain rfl : ms = [] := by simpa using hm
    refine (pop19_none (fun W kW => first23_none (hO.kept0 kW))).mono ?_
    rintro e w1 ⟨a1, c1, rfl, hO1, k1, hf1⟩
    refine ⟨[], zx, false, a1, c1, o, rfl, hO1, by simp, .of0 k1, fun W kW => ?_⟩
    have kk := k1.trans kW (by simp)
    refine (pop30_none (hF.kept0 kk)).mono ?_
    rintro e w2 ⟨rfl, k2⟩
    exact ⟨none, 0, rfl, OwnsJ.nil _, .of0 k2, T0.kept0 (kk.trans k2 (by simp))⟩
  | cons z L =>
    rw [hL] at hq hm
    obtain ⟨y, t, rfl, hy, ht⟩ : ∃ y t, qs = y :: t ∧ ot y = z ∧ t.map ot = L := by
      cases qs with
      | nil => simp at hq
      | cons y t => simp at hq; exact ⟨y, t, rfl, hq.1, hq.2⟩
    obtain ⟨m, mt, rfl, hy', ht'⟩ : ∃ y t, ms = y :: t ∧ ot y = z ∧ t.map ot = L := by
      cases ms with
      | nil => simp at hm
      | cons y t => simp at hm; exact ⟨y, t, rfl, hm.1, hm.2⟩
    have hft := g.fit (by rw [hL]; exact hq)
    have h32 := g.ln
    rw [hL, List.length_cons] at h32
    have hmt : mt.length = L.length := by rw [← ht', List.length_map]
    obtain ⟨e1, e2⟩ := ot_eq (hy.trans hy'.symm)
    refine (pop19_some hO hft).mono ?_
    rintro e w1 ⟨a1, c1, rfl, hO1, k1, hf1, hOt⟩
    refine ⟨y.to, y.q.x, true, a1, c1, popO o, rfl, hO1, by have := hft y (by simp); omega, .ofO hO hp k1, fun W kW => ?_⟩
    have hF1 := (hF.besides hO k1).kept0 kW
    have hOW := hOt.kept0 kW
    have kw0 : Kept [] w0 W := ((Turn.ofO hO hp k1).kept0 k0).trans kW (by simp)
    refine (pop30_some hF1 (by omega) kw0.size).mono ?_
    rintro e w2 ⟨rfl, v2, hF2, hJ2, k2⟩
    have k2' : Kept (footF pf v u) W w2 := k2.mono (fun x hx => .inl (by simp at hx; subst hx; exact mem_footF.2 (.inl rfl)))
    refine ⟨m.q.ad, m.q.cap, by rw [e1, e2], by rw [e2]; exact hJ2, .ofF hF1 k2', ⟨⟨t, hOW.besides hF1 k2', ?_⟩, ⟨v2, u, mt, hF2, ?_⟩, hp, g.pop, b⟩⟩
    · simp [popO, hL, ht]
    · simp [popO, hL, ht']
end
end Go.Proofs.Ythlemapneangeaa
/-
  Scripts of calls on an outbox: rows of four cells; few, awake.
-/
namespace Go.Proofs.Ythlemapneangeaa
set_option maxRecDepth 100000
open Go.RowKit Go.Deep Go.ChangeShapes
set_option linter.unusedVariables false
/-- A call: its kind, to whom, the letter's kind and its Args, and where these lie. -/
structure Pq where
  kind : Int
  to : List UInt8
  n : Int
  args : List Int
  ad : Option Addr
  cap : Nat
instance : Inhabited Pq := ⟨⟨0, [], 0, [], none, 0⟩⟩
abbrev Pq.sl (q : Pq) : Value := .slice q.ad q.args.length q.cap
def cellsP (o : Pq) : List Value := [.int .i64 o.kind, Sv o.to, .int .i64 o.n, o.sl]
def CP (l : List Pq) : List (List Value) := l.map cellsP
theorem CP_length (l : List Pq) : (CP l).length = l.length := by simp [CP]
/-- The slice v reads as these calls. -/
def RowP (w : World) (v : Value) (l : List Pq) : Prop := ReadsR 4 w v (CP l)
theorem RowP.kept {S : List Nat} {w w' : World} {v : Value} {l : List Pq} (h : RowP w v l) (k : Kept S w w') (hn : ∀ g, v.ownBlock = some g → g ∉ S) : RowP w' v l := ReadsR.kept h k hn
theorem RowP.bound {w : World} {a : Option Addr} {n c : Nat} {l : List Pq} (h : RowP w (.slice a n c) l) : n = l.length ∧ n ≤ c ∧ c ≤ 9223372036854775807 := by
  obtain ⟨a', c', e, h1, h2⟩ := ReadsR.form h
  rw [CP_length] at e h1
  injection e with _ e2 e3
  subst e2 e3
  exact ⟨rfl, h1, h2⟩
theorem RowP.at {w : World} {a : Option Addr} {n c : Nat} {l : List Pq} (h : RowP w (.slice a n c) l) {j : Nat} {q : Pq} (hq : l[j]? = some q) : ∃ b o, a = some ⟨b, o, none⟩ ∧ w.cell? ⟨b, o + j * 4, none⟩ = some (.int .i64 q.kind) ∧ w.cell? ⟨b, o + j * 4 + 1, none⟩ = some (Sv q.to) ∧ w.cell? ⟨b, o + j * 4 + 2, none⟩ = some (.int .i64 q.n) ∧ w.cell? ⟨b, o + j * 4 + 3, none⟩ = some q.sl := by
  obtain ⟨b, o, c', e, hc⟩ := ReadsR.at h j (cellsP q) (by simp [CP, hq])
  injection e with e _ _
  have h0 := hc 0 _ rfl
  have h1 := hc 1 _ rfl
  have h2 := hc 2 _ rfl
  have h3 := hc 3 _ rfl
  rw [Nat.add_zero] at h0
  exact ⟨b, o, e, h0, h1, h2, h3⟩
/-- Calls that came in. -/
def OpsIn (W : World) (v : Value) (l : List Pq) : Prop := RowP W v l ∧ (∀ o ∈ l, ReadsJ W o.sl o.args ∧ I64 o.n ∧ ∀ z ∈ o.args, I64 z)
theorem open_op {H : Type} {enc : TypeId × Value → H} {W : World} {fuel : Nat} {cs : List Value} {x : DataW H × List MemPlace} (h : DataW.trod enc Try.prog W 0 (fun _ => true) true fuel 68 cs = some x) (hl : cs.length = 4) :
    ∃ o : Pq, cs = cellsP o ∧ ReadsJ W o.sl o.args ∧ I64 o.n ∧ ∀ z ∈ o.args, I64 z := by
  obtain ⟨xs, k, hk, hxy, _, hxl, hf⟩ := DataW.trod_struct Try.underlying68 h
  match xs, hxl, cs, hl with
  | [y0, y1, y2, y3], _, [v0, v1, v2, v3], _ =>
    have g0 := hf 0 _ rfl
    have g1 := hf 1 _ rfl
    have g2 := hf 2 _ rfl
    have g3 := hf 3 _ rfl
    simp [show Try.prog.cellsOf 3 = 1 by kernel_rfl, show Try.prog.cellsOf 9 = 1 by kernel_rfl, show Try.prog.cellsOf 2 = 1 by kernel_rfl, show Try.prog.cellsOf 44 = 1 by kernel_rfl] at g0 g1 g2 g3
    obtain ⟨kd, e0, f0, w0⟩ := DataW.trod_int Try.underlying3 g0
    obtain ⟨s, e1, f1, w1⟩ := DataW.trod_string Try.underlying9 g1
    obtain ⟨n, e2, f2, w2⟩ := DataW.trod_int Try.underlying2 g2
    simp at e0 e1 e2
    subst e0 e1 e2
    have b2 := bounds_i64 w2
    have hs : Sv s.data.toList = .string s := by
      obtain ⟨d⟩ := s
      simp
    have fin : ∀ B, ReadsJ W v3 B → (∀ z ∈ B, I64 z) → ∃ o : Pq, [Value.int .i64 kd, Value.string s, .int .i64 n, v3] = cellsP o ∧ ReadsJ W o.sl o.args ∧ I64 o.n ∧ ∀ z ∈ o.args, I64 z := fun B hB hBl => by
      obtain ⟨a', c', rfl, _⟩ := hB.form
      exact ⟨⟨kd, s.data.toList, n, B, a', c'⟩, by rw [← hs]; rfl, hB, b2, hBl⟩
    rcases open_ints Try.underlying44 Try.underlying2 (by kernel_rfl) g3 with ⟨hcs3, hx3⟩ | ⟨y, l, c, zs, hcs3, _, hl3, hm3, hz, hx3, hcell3, hwz⟩
    · simp at hcs3
      subst hcs3
      exact fin [] (ReadsJ.nil W) (by simp)
    · simp at hcs3
      subst hcs3
      obtain ⟨B, hB, hBl, _⟩ := readsJ_of_row W y zs hl3 hm3 (by simpa using hz) hcell3 hwz
      exact fin B hB hBl
theorem open_ops {H : Type} {enc : TypeId × Value → H} {W : World} {fuel : Nat} {cs : List Value} {x : DataW H × List MemPlace} (h : DataW.trod enc Try.prog W 0 (fun _ => true) true fuel 22 cs = some x) :
    ∃ v l, cs = [v] ∧ OpsIn W v l := by
  rcases open_slice Try.underlying22 h with ⟨h0, hx⟩ | ⟨a, len, cap, m, n, D, Pl, hcs, hb, hl, hm, hmm, hx, hel⟩
  · exact ⟨_, [], h0, ReadsR.nil 4 W, by simp⟩
  · have hm' : m = cap := by simpa using hmm
    subst hm'
    have each : ∀ i, i < len → ∃ q : Pq, (∀ j y, (cellsP q)[j]? = some y → W.cell? (a.add (i * 4 + j)) = some y) ∧ ReadsJ W q.sl q.args ∧ I64 q.n ∧ ∀ z ∈ q.args, I64 z := by
      intro i hi
      obtain ⟨cs', h1, h2⟩ := hel i (by omega)
      rw [show Try.prog.cellsOf 68 = 4 by kernel_rfl] at h1
      obtain ⟨_, hlen, hcell⟩ := World.cells?_some h1
      obtain ⟨q, rfl, hr, hk⟩ := open_op h2 (by simpa using hlen)
      refine ⟨q, fun j y hy => ?_, hr, hk⟩
      have hj := (List.getElem?_eq_some_iff.1 hy).1
      have := hcell j (by simpa [cellsP] using hj)
      rw [addr_add_add] at this
      rw [this]
      simp [hy]
    obtain ⟨f, hfp⟩ := choose_lt each
    have hll : ((List.range len).map f).length = len := by simp
    refine ⟨_, (List.range len).map f, hcs, ⟨some a, m, by rw [CP_length, hll], by rw [CP_length, hll]; omega, hm, by simp, fun hne => ?_⟩, ?_⟩
    · have hpos : 0 < len := by
        rcases Nat.eq_zero_or_pos len with h | h
        · subst h; simp [CP] at hne
        · exact h
      obtain ⟨b, o, spot⟩ := a
      have hc := (hfp 0 (by omega)).1 0 _ rfl
      have hspot : spot = none := by simpa [Addr.add] using World.cell?_spot hc
      subst hspot
      refine ⟨b, o, rfl, fun j r hr i y hy => ?_⟩
      have hr' : ((List.range len).map f).map cellsP = CP ((List.range len).map f) := rfl
      rw [← hr', List.getElem?_map, Option.map_eq_some_iff] at hr
      obtain ⟨p, hp, rfl⟩ := hr
      have hj : j < len := by
        have := (List.getElem?_eq_some_iff.1 hp).1
        simpa using this
      rw [List.getElem?_map, List.getElem?_range hj] at hp
      simp at hp
      subst hp
      have := (hfp j hj).1 i y hy
      rw [add_at] at this
      rw [Nat.add_assoc]
      exact this
    · intro x hx
      simp only [List.mem_map, List.mem_range] at hx
      obtain ⟨i, hi, rfl⟩ := hx
      exact (hfp i hi).2
section
variable {w : World}
/-- Calls of a size that is looked at. -/
def FewO (l : List Pq) : Prop := l.length ≤ 301 ∧ ∀ o ∈ l, o.to.length ≤ 1000 ∧ o.args.length ≤ 1000
def FewOAt (l : List Pq) (w : World) (e : Ending) (w' : World) : Prop := ∃ b : Bool, e = .returned (.bool b) ∧ (b = true → FewO l) ∧ Kept [] w w'
theorem fewo_yes {l : List Pq} {w w' : World} (h : FewO l) (k : Kept [] w w') : FewOAt l w (.returned (.bool true)) w' := ⟨true, rfl, fun _ => h, k⟩
theorem fewo_no {l : List Pq} {w w' : World} (k : Kept [] w w') : FewOAt l w (.returned (.bool false)) w' := ⟨false, rfl, (fun h => Bool.noConfusion h), k⟩
set_option maxHeartbeats 1000000 in
theorem few10 {a : Option Addr} {n c : Nat} {l : List Pq} (hr : RowP w (.slice a n c) l) : Calls Try.prog 10 #[.slice a n c] w fun e w' => FewOAt l w e w' := by
  obtain ⟨hn, hc1, hc2⟩ := hr.bound
  have HN := Hid.mk hn
  have HR := Hid.mk hr
  clear hr hn
  have HY : Hid (∀ W, FewO l → Kept [] w W → FewOAt l w (.returned (.bool true)) W) := fun W => fewo_yes
  have HO : Hid (∀ W, Kept [] w W → FewOAt l w (.returned (.bool false)) W) := fun W => fewo_no
  generalize FewOAt l w = R at HY HO
  go_enter Try.func10, Try.ntmps10
  go_wp2_with fail
  go_loopw [6] (fun i wr => ∃ j : Nat, i = .int .i64 (j : Int) ∧ j ≤ n ∧ Hid (j ≤ 301 ∧ ∀ q ∈ l.take j, q.to.length ≤ 1000 ∧ q.args.length ≤ 1000) ∧ Hid (w = wr)) (fun i _ => n - (intOf i).toNat)
  case atStart => exact ⟨0, rfl, by omega, Hid.mk ⟨by omega, by simp⟩, Hid.mk rfl⟩
  case round =>
    obtain ⟨j, rfl, hj, ht, kk⟩ := hrel
    obtain rfl := kk.out
    clear kk
    by_cases hlt : j < n
    · obtain ⟨q, hq⟩ : ∃ q, l[j]? = some q := ⟨_, List.getElem?_eq_getElem (by have := HN.out; omega)⟩
      obtain ⟨b, o, rfl, d0, d1, d2, d3⟩ := HR.out.at hq
      have HQ := Hid.mk hq
      clear hq
      have hjI : (j : Int) < (n : Int) := by omega
      by_cases h1 : 1000 < q.args.length
      · have g1 : (1000 : Int) < (q.args.length : Int) := by omega
        go_wp2_with fail
        all_goals exact HO.out _ (Kept.refl [] _)
      · have g1 : ((1000 : Int) < (q.args.length : Int)) = False := eq_false (by omega)
        by_cases h2 : 1000 < q.to.length
        · have g2 : (1000 : Int) < (q.to.length : Int) := by omega
          go_wp2_with fail
          exact HO.out _ (Kept.refl [] _)
        · have g2 : ((1000 : Int) < (q.to.length : Int)) = False := eq_false (by omega)
          by_cases h3 : 300 < j
          · have g3 : (300 : Int) < (j : Int) := by omega
            go_wp2_with fail
            exact HO.out _ (Kept.refl [] _)
          · have g3 : ((300 : Int) < (j : Int)) = False := eq_false (by omega)
            go_wp2_with fail
            go_roundw
            case rel =>
              refine ⟨j + 1, by go_num, by omega, Hid.mk ⟨by omega, fun y hy => ?_⟩, by trivial⟩
              rw [List.take_add_one, HQ.out] at hy
              rcases List.mem_append.1 hy with h | h
              · exact ht.out.2 y h
              · simp at h
                subst h
                exact ⟨by omega, by omega⟩
            case measure => simp [intOf]; omega
    · obtain rfl : j = n := by omega
      go_wp2
      refine HY.out _ ⟨?_, ?_⟩ (Kept.refl [] _)
      · have := ht.out.1
        have := HN.out
        omega
      · have := ht.out.2
        rwa [List.take_of_length_le (by rw [← HN.out]; exact Nat.le_refl _)] at this
set_option maxHeartbeats 1000000 in
theorem awake9 : Calls Try.prog 9 #[] w fun e w' => e = .returned (.bool true) ∧ Kept [] w w' := by
  go_enter Try.func9, Try.ntmps9
  go_wp2_with fail
  refine (new11 [97] rfl).mono ?_
  rintro e w1 ⟨p, rfl, hB1, k1, hp⟩
  go_wp2_with fail
  refine (send20_ok hB1 List.Pairwise.nil (by simp) (by simp) [98] ⟨[97], 1, 1, []⟩ none 0 rfl (by simp) (fun W _ => ReadsJ.nil W) rfl rfl (by simp) (.inr (by simp)) (by simp [ser])).mono ?_
  rintro e w2 ⟨rfl, a2, c2, hB2, k2, -⟩
  have e2 : ser [] [98] + 1 = 1 := rfl
  rw [e2]
  go_wp2_with fail
  refine (owner24 hB2 (by simp)).mono ?_
  rintro e w3 ⟨rfl, k3⟩
  go_wp2_with fail
  go_ret
  exact ⟨rfl, (k1.trans k2 (fun x hx => .inr (by simp at hx; subst hx; exact hp))).trans k3 (by simp)⟩
end
end Go.Proofs.Ythlemapneangeaa
/-
  out and SameOuts of the law.
-/
namespace Go.Proofs.Ythlemapneangeaa
set_option maxRecDepth 100000
open Go.RowKit
set_option linter.unusedVariables false
section
variable {w : World}
set_option maxHeartbeats 1000000 in
theorem out32 (to : List UInt8) (x : Lt) (a : Option Addr) (c : Nat) : Calls Try.prog 32 #[Yv to x a c] w fun e w' => e = .returned (Yv to x a c) ∧ Kept [] w w' := by
  go_enter Try.func32, Try.ntmps32
  go_wp2_with fail
  obtain ⟨W0, e0, k0, hz0, hb0, hb1⟩ := box2 w (.cells #[Sv to, Sv x.fr, .int .u64 (x.ser : Int), .int .i64 x.kind, .slice a x.args.length c] 48) (.cells #[Sv to, Sv x.fr, .int .u64 (x.ser : Int), .int .i64 x.kind, .slice a x.args.length c] 75)
  refine Eq.mpr (congrArg (bodyPost Try.prog Try.f32 _ _ _) e0) ?_
  refine bodyPost_ret (results_cell_row (p := 2) (ty := 75) rfl _ _ (w.heap.size + 1) 75 _ (0, 0) _ rfl hb1 Try.underlying75 rfl (by kernel_rfl)) rfl ?_
  exact ⟨rfl, k0⟩
set_option maxHeartbeats 2000000 in
theorem sameOuts31 {b d : Nat} (to : List UInt8) (x : Lt) (a a' : Option Addr) (c c' : Nat) (hb : w.heap[b]? = some (.cells #[Sv to, Sv x.fr, .int .u64 (x.ser : Int), .int .i64 x.kind, .slice a x.args.length c] 75 (0, 0))) (hd : w.heap[d]? = some (.cells #[Sv to, Sv x.fr, .int .u64 (x.ser : Int), .int .i64 x.kind, .slice a' x.args.length c'] 75 (0, 0)))
    (hx : ReadsJ w (.slice a x.args.length c) x.args) (hy : ReadsJ w (.slice a' x.args.length c') x.args) (hl : x.args.length ≤ 1000) :
    Calls Try.prog 31 #[.slice (some ⟨b, 0, none⟩) 1 1, .slice (some ⟨d, 0, none⟩) 1 1] w fun e w' => e = .returned (.bool true) ∧ Kept [] w w' := by
  have HX := Hid.mk hx
  have HY := Hid.mk hy
  have HBB := Hid.mk hb
  have HDD := Hid.mk hd
  clear hx hy hb hd
  go_enter Try.func31, Try.ntmps31
  go_wp2_with fail
  go_loopw [13] (fun i wr => ∃ j : Nat, i = .int .i64 (j : Int) ∧ j ≤ 1 ∧ Hid (Kept [] w wr)) (fun i _ => 1 - (intOf i).toNat)
  case atStart => exact ⟨0, rfl, by omega, Hid.mk (Kept.refl [] _)⟩
  case round =>
    obtain ⟨j, rfl, hj, hk⟩ := hrel
    by_cases hlt : j < 1
    · obtain rfl : j = 0 := by omega
      have kd : Kept [] w wr.drew := hk.out.drew
      have HS : Hid (∀ W, Kept [] wr.drew W → ((W.cell? ⟨b, 0, none⟩ = some (Sv to) ∧ W.cell? ⟨b, 1, none⟩ = some (Sv x.fr) ∧ W.cell? ⟨b, 2, none⟩ = some (.int .u64 (x.ser : Int)) ∧ W.cell? ⟨b, 3, none⟩ = some (.int .i64 x.kind) ∧ W.cell? ⟨b, 4, none⟩ = some (.slice a x.args.length c)) ∧ (W.cell? ⟨d, 0, none⟩ = some (Sv to) ∧ W.cell? ⟨d, 1, none⟩ = some (Sv x.fr) ∧ W.cell? ⟨d, 2, none⟩ = some (.int .u64 (x.ser : Int)) ∧ W.cell? ⟨d, 3, none⟩ = some (.int .i64 x.kind) ∧ W.cell? ⟨d, 4, none⟩ = some (.slice a' x.args.length c')))) := fun W k => ⟨cells5 ((kd.trans k (by simp)).keeps HBB.out (by simp)), cells5 ((kd.trans k (by simp)).keeps HDD.out (by simp))⟩
      have S0 := HS.out _ (Kept.refl [] _)
      have H56 : Hid (Calls Try.prog 56 #[Lv x a c, Lv x a' c'] wr.drew fun e w' => e = .returned (.bool true) ∧ Kept [] wr.drew w') := by
        have := same16 x x a a' c c' (HX.out.kept kd (by simp)) (HY.out.kept kd (by simp)) (by omega)
        rw [sameL_refl] at this
        exact this
      clear kd
      go_wp2_with fail
      go_region_held3 (fun W => ((W.cell? ⟨b, 0, none⟩ = some (Sv to) ∧ W.cell? ⟨b, 1, none⟩ = some (Sv x.fr) ∧ W.cell? ⟨b, 2, none⟩ = some (.int .u64 (x.ser : Int)) ∧ W.cell? ⟨b, 3, none⟩ = some (.int .i64 x.kind) ∧ W.cell? ⟨b, 4, none⟩ = some (.slice a x.args.length c)) ∧ (W.cell? ⟨d, 0, none⟩ = some (Sv to) ∧ W.cell? ⟨d, 1, none⟩ = some (Sv x.fr) ∧ W.cell? ⟨d, 2, none⟩ = some (.int .u64 (x.ser : Int)) ∧ W.cell? ⟨d, 3, none⟩ = some (.int .i64 x.kind) ∧ W.cell? ⟨d, 4, none⟩ = some (.slice a' x.args.length c')))) (first | with_reducible exact S0 | with_reducible exact S1) (first | (go_at_call 56; refine H56.out.mono ?_; rintro e V6 ⟨rfl, k6⟩; have S1 := HS.out _ k6))
      clear S0 S1 HS H56
      go_wp2_with fail
      go_roundw
      case rel => exact ⟨1, by go_num, by omega, Hid.mk ((hk.out.drew).trans k6 (by simp))⟩
      case measure => simp [intOf]
    · obtain rfl : j = 1 := by omega
      go_wp2_with fail
      go_ret
      exact ⟨rfl, hk.out⟩
end
end Go.Proofs.Ythlemapneangeaa
