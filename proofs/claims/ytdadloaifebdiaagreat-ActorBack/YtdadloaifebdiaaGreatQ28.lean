import Derived.Test.YtdadloaifebdiaaGreatQ12
import Derived.Test.YtdadloaifebdiaaGreatQ20
import Derived.Test.YtdadloaifebdiaaGreatQ23
import Derived.Test.YtdadloaifebdiaaGreatQ27
/-
  An actor in memory, the program's and the document's, side by side, while they are made.
-/
namespace Go.Proofs.YtdadloaifebdiaaGreat
set_option maxRecDepth 100000
open Go.RowKit
set_option linter.unusedVariables false
/-- Blocks of these types alone, new since w0, are other ones. -/
def TT (ts : List Nat) (w0 w w' : World) : Prop := ∃ S, Kept S w w' ∧ ∀ g ∈ S, w0.heap.size ≤ g ∧ ∃ cs t, w.heap[g]? = some (.cells cs t (0, 0)) ∧ t ∈ ts
section
variable {w0 w w' : World} {ts : List Nat}
theorem TT.of0 (k : Kept [] w w') : TT ts w0 w w' := ⟨[], k, by simp⟩
theorem TT.kept0 (T : TT ts w0 w w') (k : Kept [] w0 w) : Kept [] w0 w' := by
  obtain ⟨S, kS, hS⟩ := T
  exact k.trans kS (fun x hx => .inr (hS x hx).1)
theorem TT.ne {S : List Nat} (hS : ∀ g ∈ S, w0.heap.size ≤ g ∧ ∃ cs t, w.heap[g]? = some (.cells cs t (0, 0)) ∧ t ∈ ts) {g : Nat} {cs : Array Value} {t : TypeId} {fz : Nat × Nat} (h : w.heap[g]? = some (.cells cs t fz)) (ht : t ∉ ts) : g ∉ S := fun hm => by
  obtain ⟨-, cs', t', h', ht'⟩ := hS g hm
  rw [h] at h'
  injection h' with h'
  injection h' with _ e
  subst e
  exact ht ht'
theorem TT.box (T : TT ts w0 w w') {g : Nat} {cs : Array Value} {t : TypeId} {fz : Nat × Nat} (h : w.heap[g]? = some (.cells cs t fz)) (ht : t ∉ ts) : w'.heap[g]? = some (.cells cs t fz) := by
  obtain ⟨S, kS, hS⟩ := T
  exact kS.keeps h (TT.ne hS h ht)
theorem TT.neR {S : List Nat} (hS : ∀ g ∈ S, w0.heap.size ≤ g ∧ ∃ cs t, w.heap[g]? = some (.cells cs t (0, 0)) ∧ t ∈ ts) {e : TypeId} {k : Nat} {v : Value} {rs : List (List Value)} (h : OwnsR e k w v rs) (ht : e ∉ ts) : ∀ g, v.ownBlock = some g → g ∉ S := fun g hg => by
  rcases ownR_form h with ⟨rfl, -⟩ | ⟨g1, cap, cur, rfl, hb⟩
  · simp [Value.ownBlock] at hg
  · simp [Value.ownBlock] at hg
    subst hg
    exact TT.ne hS hb ht
theorem TT.neJ {S : List Nat} (hS : ∀ g ∈ S, w0.heap.size ≤ g ∧ ∃ cs t, w.heap[g]? = some (.cells cs t (0, 0)) ∧ t ∈ ts) {v : Value} {l : List Int} (h : OwnsJ w v l) (ht : (2 : Nat) ∉ ts) : ∀ g, v.ownBlock = some g → g ∉ S := fun g hg => by
  obtain ⟨cs, hb⟩ := ownsJ_type h hg
  exact TT.ne hS hb ht
theorem TT.isJ {p : Nat} {j : Jn} (T : TT ts w0 w w') (h : IsJ w p j) (ht : (148 : Nat) ∉ ts) : IsJ w' p j := by
  obtain ⟨S, kS, hS⟩ := T
  exact h.kept kS (TT.ne hS h.isP.box ht)
theorem TT.isB {p : Nat} {qs : List Lq} (T : TT ts w0 w w') (h : IsB w p qs) (ht : (153 : Nat) ∉ ts) (h2 : (2 : Nat) ∉ ts) : IsB w' p qs := by
  obtain ⟨S, kS, hS⟩ := T
  exact h.kept kS (TT.ne hS h.box ht) fun q hq => TT.neJ hS (h.args q hq) h2
theorem TT.isO {p : Nat} {own : List UInt8} {K : List La} {qs : List Yq} (T : TT ts w0 w w') (h : IsO w p own K qs) (ht : (159 : Nat) ∉ ts) (h2 : (2 : Nat) ∉ ts) : IsO w' p own K qs := by
  obtain ⟨S, kS, hS⟩ := T
  obtain ⟨cs, hb⟩ := h.bx
  exact h.kept kS (TT.ne hS hb ht) fun q hq => TT.neJ hS (h.args q hq) h2
theorem TT.isFJ {f : Nat} {v : Value} {j : Jn} (T : TT ts w0 w w') (h : IsF_J w f v j) (ht : (100 : Nat) ∉ ts) (h2 : (108 : Nat) ∉ ts) : IsF_J w' f v j := by
  obtain ⟨S, kS, hS⟩ := T
  exact h.kept kS (TT.ne hS h.box ht) (TT.neR hS h.own h2)
theorem TT.isFI {f : Nat} {v : Value} {qs : List Lq} {w1 : World} (T : TT ts w0 w w') (h : IsF_I w1 w f v qs) (ht : (70 : Nat) ∉ ts) (h2 : (90 : Nat) ∉ ts) (h3 : (2 : Nat) ∉ ts) : IsF_I w1 w' f v qs := by
  obtain ⟨S, kS, hS⟩ := T
  refine ⟨kS.keeps h.box (TT.ne hS h.box ht), h.own.kept kS fun y hy => ⟨fun e => TT.neR hS h.own.own h2 y e hy, fun q hq e => TT.neJ hS (h.own.args q hq) h3 y e hy⟩, h.fr⟩
theorem TT.isFO {f : Nat} {v u : Value} {own : List UInt8} {K : List La} {ms : List Yq} {w1 : World} (T : TT ts w0 w w') (h : IsF w1 w f v u own K ms) (ht : (83 : Nat) ∉ ts) (h2 : (93 : Nat) ∉ ts) (h3 : (136 : Nat) ∉ ts) (h4 : (2 : Nat) ∉ ts) : IsF w1 w' f v u own K ms := by
  obtain ⟨S, kS, hS⟩ := T
  exact ⟨kS.keeps h.box (TT.ne hS h.box ht), h.ys.kept kS fun y hy => ⟨fun e => TT.neR hS h.ys.own h2 y e hy, fun q hq e => TT.neJ hS (h.ys.args q hq) h4 y e hy⟩, h.ks.kept kS (TT.neR hS h.ks h3), h.fru, h.fr⟩
theorem TT.ofJ {p : Nat} {j : Jn} (h : IsJ w p j) (hp : w0.heap.size ≤ p) (k : Kept [p] w w') : TT [148] w0 w w' :=
  ⟨[p], k, fun g hg => by simp at hg; subst hg; exact ⟨hp, _, _, h.isP.box, by simp⟩⟩
theorem TT.ofB {p : Nat} {qs : List Lq} (h : IsB w p qs) (hp : w0.heap.size ≤ p) (k : Kept [p] w w') : TT [153] w0 w w' :=
  ⟨[p], k, fun g hg => by simp at hg; subst hg; exact ⟨hp, _, _, h.box, by simp⟩⟩
theorem TT.ofO {p : Nat} {own : List UInt8} {K : List La} {qs : List Yq} (h : IsO w p own K qs) (hp : w0.heap.size ≤ p) (k : Kept [p] w w') : TT [159] w0 w w' := by
  obtain ⟨cs, hb⟩ := h.bx
  exact ⟨[p], k, fun g hg => by simp at hg; subst hg; exact ⟨hp, _, _, hb, by simp⟩⟩
theorem TT.ofFJ {f : Nat} {v : Value} {j : Jn} (h : IsF_J w f v j) (hf : w0.heap.size ≤ f) (hv : Fresh w0 v) (k : Kept (foot f v) w w') : TT [100, 108] w0 w w' := by
  refine ⟨_, k, fun g hg => ?_⟩
  rcases mem_foot.1 hg with e | e
  · subst e; exact ⟨hf, _, _, h.box, by simp⟩
  · refine ⟨hv g e, ?_⟩
    rcases ownR_form h.own with ⟨rfl, -⟩ | ⟨g1, cap, cur, rfl, hb⟩
    · simp [Value.ownBlock] at e
    · simp [Value.ownBlock] at e
      subst e
      exact ⟨_, _, hb, by simp⟩
theorem TT.ofFI {f : Nat} {v : Value} {qs : List Lq} (h : IsF_I w0 w f v qs) (k : Kept (foot f v) w w') : TT [70, 90] w0 w w' := by
  refine ⟨_, k, fun g hg => ?_⟩
  rcases mem_foot.1 hg with e | e
  · subst e; exact ⟨h.fr, _, _, h.box, by simp⟩
  · refine ⟨h.own.fr g e, ?_⟩
    rcases ownR_form h.own.own with ⟨rfl, -⟩ | ⟨g1, cap, cur, rfl, hb⟩
    · simp [Value.ownBlock] at e
    · simp [Value.ownBlock] at e
      subst e
      exact ⟨_, _, hb, by simp⟩
theorem TT.ofFO {f : Nat} {v u : Value} {own : List UInt8} {K : List La} {ms : List Yq} (h : IsF w0 w f v u own K ms) (k : Kept (footF f v u) w w') : TT [83, 93, 136] w0 w w' := by
  refine ⟨_, k, fun g hg => ?_⟩
  rcases mem_footF.1 hg with e | e | e
  · subst e; exact ⟨h.fr, _, _, h.box, by simp⟩
  · refine ⟨h.ys.fr g e, ?_⟩
    rcases ownR_form h.ys.own with ⟨rfl, -⟩ | ⟨g1, cap, cur, rfl, hb⟩
    · simp [Value.ownBlock] at e
    · simp [Value.ownBlock] at e
      subst e
      exact ⟨_, _, hb, by simp⟩
  · refine ⟨h.fru g e, ?_⟩
    rcases ownR_form h.ks with ⟨rfl, -⟩ | ⟨g1, cap, cur, rfl, hb⟩
    · simp [Value.ownBlock] at e
    · simp [Value.ownBlock] at e
      subst e
      exact ⟨_, _, hb, by simp⟩
end
/-- Where the parts of the two actors lie. -/
structure Pt where
  p : Nat
  j : Nat
  i : Nat
  o : Nat
  f : Nat
  fj : Nat
  fi : Nat
  fo : Nat
abbrev Ptr (g : Nat) : Value := .pointer (some ⟨g, 0, none⟩)
/-- The program's actor: its parts, its tries t, its poison's row v. -/
structure PA (w0 w : World) (p pj pi po : Nat) (t : Int) (v : Value) (a : Ac) : Prop where
  box : w.heap[p]? = some (.cells #[Ptr pj, Ptr pi, Ptr po, Iv t, v] 53 (0, 0))
  j : IsJ w pj a.j
  i : ∃ qs, IsB w pi qs ∧ qs.map (·.x) = a.inb
  o : ∃ ys, IsO w po a.out.own a.out.K ys ∧ ys.map ot = a.out.L
  hp : w0.heap.size ≤ p
  hj : w0.heap.size ≤ pj
  hi : w0.heap.size ≤ pi
  ho : w0.heap.size ≤ po
/-- The document's. -/
structure FA (w0 w : World) (f fj fi fo : Nat) (t : Int) (v : Value) (a : Ac) : Prop where
  box : w.heap[f]? = some (.cells #[Ptr fj, Ptr fi, Ptr fo, Iv t, v] 72 (0, 0))
  j : ∃ u, IsF_J w fj u a.j ∧ Fresh w0 u
  i : ∃ u qs, IsF_I w0 w fi u qs ∧ qs.map (·.x) = a.inb
  o : ∃ u x ys, IsF w0 w fo u x a.out.own a.out.K ys ∧ ys.map ot = a.out.L
  hf : w0.heap.size ≤ f
  hj : w0.heap.size ≤ fj
section
variable {w0 w w' : World} {p pj pi po f fj fi fo : Nat} {t : Int} {v : Value} {a b : Ac} {ts : List Nat}
theorem PA.turn (h : PA w0 w p pj pi po t v a) (T : TT ts w0 w w') (ht : ∀ x ∈ [53, 148, 153, 159, 2], x ∉ ts) : PA w0 w' p pj pi po t v a := by
  obtain ⟨h1, h2, ⟨qs, h3, h4⟩, ⟨ys, h5, h6⟩, h7, h8, h9, h10⟩ := h
  exact ⟨T.box h1 (ht _ (by simp)), T.isJ h2 (ht _ (by simp)), ⟨qs, T.isB h3 (ht _ (by simp)) (ht _ (by simp)), h4⟩, ⟨ys, T.isO h5 (ht _ (by simp)) (ht _ (by simp)), h6⟩, h7, h8, h9, h10⟩
theorem FA.turn (h : FA w0 w f fj fi fo t v a) (T : TT ts w0 w w') (ht : ∀ x ∈ [72, 100, 108, 70, 90, 83, 93, 136, 2], x ∉ ts) : FA w0 w' f fj fi fo t v a := by
  obtain ⟨h1, ⟨u1, h2, h3⟩, ⟨u2, qs, h4, h5⟩, ⟨u3, x3, ys, h6, h7⟩, h8, h9⟩ := h
  exact ⟨T.box h1 (ht _ (by simp)), ⟨u1, T.isFJ h2 (ht _ (by simp)) (ht _ (by simp)), h3⟩, ⟨u2, qs, T.isFI h4 (ht _ (by simp)) (ht _ (by simp)) (ht _ (by simp)), h5⟩, ⟨u3, x3, ys, T.isFO h6 (ht _ (by simp)) (ht _ (by simp)) (ht _ (by simp)) (ht _ (by simp)), h7⟩, h8, h9⟩
theorem PA.kept0 (h : PA w0 w p pj pi po t v a) (k : Kept [] w w') : PA w0 w' p pj pi po t v a := h.turn (ts := []) (TT.of0 k) (by simp)
theorem FA.kept0 (h : FA w0 w f fj fi fo t v a) (k : Kept [] w w') : FA w0 w' f fj fi fo t v a := h.turn (ts := []) (TT.of0 k) (by simp)
end
/-- Both actors: the program's is a, the document's b. -/
structure Both (w0 w : World) (P : Pt) (t : Int) (v : Value) (s : Int) (u : Value) (a b : Ac) : Prop where
  pa : PA w0 w P.p P.j P.i P.o t v a
  fa : FA w0 w P.f P.fj P.fi P.fo s u b
  k : Kept [] w0 w
  ga : GoodP a
  gb : GoodP b
section
variable {w0 w w' : World} {P : Pt} {t s : Int} {v u : Value} {a b : Ac}
theorem Both.kept0 (T : Both w0 w P t v s u a b) (k : Kept [] w w') : Both w0 w' P t v s u a b := ⟨T.pa.kept0 k, T.fa.kept0 k, T.k.trans k (by simp), T.ga, T.gb⟩
theorem pushL_good {l : List Lt} {x : Lt} (h8 : l.length ≤ 8) (hl : ∀ y ∈ l, y.ok ∧ y.formed = true) (hx : x.ok) : (pushL l x).length ≤ 8 ∧ ∀ y ∈ pushL l x, y.ok ∧ y.formed = true := by
  unfold pushL
  split
  · rename_i h
    refine ⟨by rw [List.length_append]; simp; omega, fun y hy => ?_⟩
    rcases List.mem_append.1 hy with h1 | h1
    · exact hl y h1
    · simp at h1; subst h1; exact ⟨hx, h.1⟩
  · exact ⟨h8, hl⟩
/-- A letter that is pushed. -/
def pushAc (a : Ac) (x : Lt) : Ac := ⟨a.j, pushL a.inb x, a.out, a.tries, a.poi⟩
theorem GoodP.push (h : GoodP a) {x : Lt} (hx : x.ok) : GoodP (pushAc a x) :=
  ⟨h.j, (pushL_good h.i8 h.inb hx).1, (pushL_good h.i8 h.inb hx).2, h.out, h.poi⟩
theorem both_pushP (T : Both w0 w P t v s u a b) (x : Lt) (ad : Option Addr) (c : Nat) (hx : ReadsJ w (.slice ad x.args.length c) x.args) (hok : x.ok) :
    Calls Tryz.prog 51 #[Ptr P.i, Lv x ad c] w fun e w' => (∃ r, e = .returned (Iv r)) ∧ Both w0 w' P t v s u (pushAc a x) b := by
  obtain ⟨hpa, hfa, hk, ga, gb⟩ := T
  obtain ⟨h1, h2, ⟨qs, h3, h4⟩, ⟨ys, h5, h6⟩, h7, h8, h9, h10⟩ := hpa
  refine (push11 x ad c h3 hx hok).mono ?_
  rintro e w1 ⟨qs', rfl, hB, hm, k1, -⟩
  have T1 := TT.ofB h3 h9 k1
  refine ⟨⟨_, rfl⟩, ⟨⟨T1.box h1 (by decide), T1.isJ h2 (by decide), ⟨qs', hB, by rw [hm, h4]; rfl⟩, ⟨ys, T1.isO h5 (by decide) (by decide), h6⟩, h7, h8, h9, h10⟩, hfa.turn T1 (by decide), T1.kept0 hk, ga.push hok, gb⟩⟩
theorem both_pushF (T : Both w0 w P t v s u a b) (x : Lt) (ad : Option Addr) (c : Nat) (hx : ReadsJ w (.slice ad x.args.length c) x.args) (hok : x.ok) :
    Calls Tryz.prog 52 #[Ptr P.fi, Lv x ad c] w fun e w' => (∃ r, e = .returned (Iv r)) ∧ Both w0 w' P t v s u a (pushAc b x) := by
  obtain ⟨hpa, hfa, hk, ga, gb⟩ := T
  obtain ⟨h1, ⟨u1, h2, h3⟩, ⟨u2, qs, h4, h5⟩, ⟨u3, x3, ys, h6, h7⟩, h8, h9⟩ := hfa
  have hl : qs.length ≤ 8 := by have := gb.i8; rw [← h5, List.length_map] at this; exact this
  refine (rpush12 x ad c h4 hl hx hk.size).mono ?_
  rintro e w1 ⟨rfl, v', qs', hF, hm, k1⟩
  have T1 := TT.ofFI h4 k1
  refine ⟨⟨_, rfl⟩, ⟨hpa.turn T1 (by decide), ⟨T1.box h1 (by decide), ⟨u1, T1.isFJ h2 (by decide) (by decide), h3⟩, ⟨v', qs', hF, by rw [hm, h5]; rfl⟩, ⟨u3, x3, ys, T1.isFO h6 (by decide) (by decide) (by decide) (by decide), h7⟩, h8, h9⟩, T1.kept0 hk, ga, gb.push hok⟩⟩
end
/-- What a Send leaves. -/
def sndO (o : Ob) (to : List UInt8) (kind : Int) (args : List Int) : Ob :=
  if isKey to = true ∧ args.length ≤ 4 ∧ o.L.length ≠ 32 ∧ (hasK o.K to = true ∨ o.K.length ≠ 64) then sendO o to kind args else o
/-- No serial is above B. -/
def SerB (o : Ob) (B : Nat) : Prop := ∀ y ∈ o.K, y.s ≤ B
theorem SerB.le {o : Ob} {B : Nat} (h : SerB o B) (to : List UInt8) : ser o.K to ≤ B := by
  cases hk : hasK o.K to with
  | false => rw [(has_not hk).1]; omega
  | true =>
    obtain ⟨s, h1, h2⟩ := has_at hk
    rw [h2]
    exact h _ (List.mem_of_getElem? h1)
theorem SerB.snd {o : Ob} {B : Nat} (h : SerB o B) (to : List UInt8) (kind : Int) (args : List Int) : SerB (sndO o to kind args) (B + 1) := by
  unfold sndO
  split
  · intro y hy
    rcases setK_mem hy with rfl | hy
    · show ser o.K to + 1 ≤ _
      have := h.le to
      omega
    · have := h y hy
      omega
  · intro y hy
    have := h y hy
    omega
theorem GoodO.snd {o : Ob} (g : GoodO o) {B : Nat} (hB : SerB o B) (h6 : B < 4611686018427387904) {to : List UInt8} {kind : Int} {args : List Int} (hk : I64 kind) (ha : ∀ z ∈ args, I64 z) : GoodO (sndO o to kind args) := by
  unfold sndO
  split
  · rename_i h
    have h3 := g.ln
    have h4 := g.kn
    have h5 := hB.le to
    refine g.send h.1 hk ha h.2.1 (by omega) ?_ (by show _ < _; omega)
    rcases h.2.2.2 with h | h
    · exact .inl h
    · right; omega
  · exact g
theorem sndO_own (o : Ob) (to : List UInt8) (kind : Int) (args : List Int) : (sndO o to kind args).own = o.own := by unfold sndO; split <;> rfl
section
variable {w0 w w' : World} {P : Pt} {t s : Int} {v u : Value} {a b : Ac}
def sendAc (a : Ac) (to : List UInt8) (kind : Int) (args : List Int) : Ac := ⟨a.j, a.inb, sndO a.out to kind args, a.tries, a.poi⟩
theorem both_sendP (T : Both w0 w P t v s u a b) (to : List UInt8) (kind : Int) (args : List Int) (ad : Option Addr) (c : Nat) (hx : OwnsJ w (.slice ad args.length c) args) (hto : to.length ≤ 1000) (hn : args.length ≤ 1000) (hk : I64 kind) (ha : ∀ z ∈ args, I64 z) {B : Nat} (hB : SerB a.out B) (h6 : B < 4611686018427387904) :
    Calls Tryz.prog 53 #[Ptr P.o, Sv to, .int .i64 kind, .slice ad args.length c] w fun e w' => (∃ r y, e = .returned (.tuple #[r, y])) ∧ Both w0 w' P t v s u (sendAc a to kind args) b := by
  have T0 := T
  obtain ⟨hpa, hfa, hk0, ga, gb⟩ := T
  obtain ⟨h1, h2, ⟨qs, h3, h4⟩, ⟨ys, h5, h6'⟩, h7, h8, h9, h10⟩ := hpa
  have g := ga.out
  have hown : (!a.out.own.isEmpty) = true := by have := g.ne.1; cases h : a.out.own with | nil => exact absurd h this | cons _ _ => rfl
  have hyl : ys.length = a.out.L.length := by rw [← h6', List.length_map]
  by_cases hc : isKey to = true ∧ args.length ≤ 4 ∧ a.out.L.length ≠ 32 ∧ (hasK a.out.K to = true ∨ a.out.K.length ≠ 64)
  · have hln := g.ln
    have hkn := g.kn
    have hse := hB.le to
    have h64 : hasK a.out.K to = true ∨ a.out.K.length < 64 := by rcases hc.2.2.2 with h | h; exact .inl h; right; omega
    have he : sndO a.out to kind args = sendO a.out to kind args := by unfold sndO; rw [if_pos hc]
    have gs := g.snd hB h6 (to := to) hk ha
    refine (send20_ok h5 g.rise g.ne.1 (by have := g.ne.2; omega) to ⟨a.out.own, ser a.out.K to + 1, kind, args⟩ ad c hc.1 hc.2.1 (fun W kW => (hx.kept kW (fun g hg hm => by
      simp at hm; subst hm
      obtain ⟨cs, hb⟩ := h5.bx
      exact ownsJ_ne hx hb (by decide) hg)).reads) rfl rfl (by omega) h64 (by omega)).mono ?_
    rintro e w1 ⟨rfl, a1, c1, hO1, k1, -⟩
    have T1 := TT.ofO h5 h10 k1
    refine ⟨⟨_, _, rfl⟩, ⟨⟨T1.box h1 (by decide), T1.isJ h2 (by decide), ⟨qs, T1.isB h3 (by decide) (by decide), h4⟩, ⟨ys ++ [⟨to, ⟨a.out.own, ser a.out.K to + 1, kind, args⟩, a1, c1⟩], ?_, ?_⟩, h7, h8, h9, h10⟩, hfa.turn T1 (by decide), T1.kept0 hk0, ⟨ga.j, ga.i8, ga.inb, gs, ga.poi⟩, gb⟩⟩
    · show IsO w1 P.o (sndO a.out to kind args).own (sndO a.out to kind args).K _
      rw [he]
      exact hO1
    · show _ = (sndO a.out to kind args).L
      rw [he]
      simp [sendO, h6', ot]
  · have he : sndO a.out to kind args = a.out := by unfold sndO; rw [if_neg hc]
    have hA : sendAc a to kind args = a := by unfold sendAc; rw [he]
    rw [hA]
    by_cases hr : isKey to = false ∨ 4 < args.length
    · refine (send20_arg to kind ad args.length c _ (by omega) true (by have := owned34 h5; rwa [hown] at this) (by omega) (.inr hr)).mono ?_
      rintro e w1 ⟨rfl, rfl⟩
      exact ⟨⟨_, _, rfl⟩, T0⟩
    · have hkey : isKey to = true := by cases h : isKey to with | true => rfl | false => exact absurd (.inl h) hr
      have h4' : args.length ≤ 4 := by have : ¬ 4 < args.length := fun h => hr (.inr h); omega
      refine (send20_full h5 g.rise g.ne.1 to kind ad args.length c hkey h4' ?_).mono ?_
      · rw [hyl]
        by_cases h32 : a.out.L.length = 32
        · exact .inl h32
        · right
          by_cases h64 : a.out.K.length = 64
          · cases hh : hasK a.out.K to with
            | true => exact absurd ⟨hkey, h4', h32, .inl hh⟩ hc
            | false => exact ⟨rfl, h64⟩
          · exact absurd ⟨hkey, h4', h32, .inr h64⟩ hc
      · rintro e w1 ⟨rfl, k1⟩
        exact ⟨⟨_, _, rfl⟩, T0.kept0 k1⟩
theorem both_sendF (T : Both w0 w P t v s u a b) (to : List UInt8) (kind : Int) (args : List Int) (ad : Option Addr) (c : Nat) (hx : OwnsJ w (.slice ad args.length c) args) (hto : to.length ≤ 1000) (hn : args.length ≤ 1000) (hk : I64 kind) (ha : ∀ z ∈ args, I64 z) {B : Nat} (hB : SerB b.out B) (h6 : B < 4611686018427387904) :
    Calls Tryz.prog 54 #[Ptr P.fo, Sv to, .int .i64 kind, .slice ad args.length c] w fun e w' => (∃ r y, e = .returned (.tuple #[r, y])) ∧ Both w0 w' P t v s u a (sendAc b to kind args) := by
  have T0 := T
  obtain ⟨hpa, hfa, hk0, ga, gb⟩ := T
  obtain ⟨h1, ⟨u1, h2, h3⟩, ⟨u2, qs, h4, h5⟩, ⟨u3, x3, ys, h6', h7⟩, h8, h9⟩ := hfa
  have g := gb.out
  have hyl : ys.length = b.out.L.length := by rw [← h7, List.length_map]
  have hln := g.ln
  have hkn := g.kn
  by_cases hc : isKey to = true ∧ args.length ≤ 4 ∧ b.out.L.length ≠ 32 ∧ (hasK b.out.K to = true ∨ b.out.K.length ≠ 64)
  · have hse := hB.le to
    have h64 : hasK b.out.K to = true ∨ b.out.K.length < 64 := by rcases hc.2.2.2 with h | h; exact .inl h; right; omega
    have he : sndO b.out to kind args = sendO b.out to kind args := by unfold sndO; rw [if_pos hc]
    have gs := g.snd hB h6 (to := to) hk ha
    refine (send29_ok h6' hkn hk0.size to ⟨b.out.own, ser b.out.K to + 1, kind, args⟩ ad c hc.1 hc.2.1 (fun W kW => (hx.kept kW (fun g hg hm => by
      obtain ⟨S, kS, hS⟩ := TT.ofFO h6' kW
      rcases mem_footF.1 hm with e | e | e
      · subst e; exact ownsJ_ne hx h6'.box (by decide) hg
      · exact own_apart hx h6'.ys.own (by decide) hg e
      · exact own_apart hx h6'.ks (by decide) hg e)).reads) rfl rfl (by omega) h64 (by omega)).mono ?_
    rintro e w1 ⟨rfl, v', u', a1, c1, hF1, k1⟩
    have T1 := TT.ofFO h6' k1
    refine ⟨⟨_, _, rfl⟩, ⟨hpa.turn T1 (by decide), ⟨T1.box h1 (by decide), ⟨u1, T1.isFJ h2 (by decide) (by decide), h3⟩, ⟨u2, qs, T1.isFI h4 (by decide) (by decide) (by decide), h5⟩, ⟨v', u', ys ++ [⟨to, ⟨b.out.own, ser b.out.K to + 1, kind, args⟩, a1, c1⟩], ?_, ?_⟩, h8, h9⟩, T1.kept0 hk0, ga, ⟨gb.j, gb.i8, gb.inb, gs, gb.poi⟩⟩⟩
    · show IsF w0 w1 P.fo v' u' (sndO b.out to kind args).own (sndO b.out to kind args).K _
      rw [he]
      exact hF1
    · show _ = (sndO b.out to kind args).L
      rw [he]
      simp [sendO, h7, ot]
  · have he : sndO b.out to kind args = b.out := by unfold sndO; rw [if_neg hc]
    have hA : sendAc b to kind args = b := by unfold sendAc; rw [he]
    rw [hA]
    by_cases hr : isKey to = false ∨ 4 < args.length
    · refine (send29_arg to kind ad args.length c _ (by omega) (by omega) hr).mono ?_
      rintro e w1 ⟨rfl, rfl⟩
      exact ⟨⟨_, _, rfl⟩, T0⟩
    · have hkey : isKey to = true := by cases h : isKey to with | true => rfl | false => exact absurd (.inl h) hr
      have h4' : args.length ≤ 4 := by have : ¬ 4 < args.length := fun h => hr (.inr h); omega
      refine (send29_full h6' hkn (by omega) to kind ad args.length c hkey h4' ?_).mono ?_
      · rw [hyl]
        by_cases h32 : b.out.L.length = 32
        · exact .inl h32
        · right
          by_cases h64 : b.out.K.length = 64
          · cases hh : hasK b.out.K to with
            | true => exact absurd ⟨hkey, h4', h32, .inl hh⟩ hc
            | false => exact ⟨rfl, h64⟩
          · exact absurd ⟨hkey, h4', h32, .inr h64⟩ hc
      · rintro e w1 ⟨rfl, rfl⟩
        exact ⟨⟨_, _, rfl⟩, T0⟩
def addAc (a : Ac) (l : List Ep) : Ac := ⟨addR a.j l, a.inb, a.out, a.tries, a.poi⟩
theorem both_addP (T : Both w0 w P t v s u a b) {x : Value} {l : List Ep} (hO : OwnsR 107 2 w x (CE l)) (h64 : ∀ e ∈ l, E64 e) (hl : l.length ≤ 1000000) (hv : a.j.ver + l.length < 18446744073709551616) :
    Calls Tryz.prog 55 #[Ptr P.j, x] w fun e w' => (∃ r, e = .returned (Iv r)) ∧ Both w0 w' P t v s u (addAc a l) b := by
  obtain ⟨hpa, hfa, hk0, ga, gb⟩ := T
  obtain ⟨h1, h2, ⟨qs, h3, h4⟩, ⟨ys, h5, h6⟩, h7, h8, h9, h10⟩ := hpa
  refine (add12 h2 ga.j.reg (fun W kW => (hO.kept kW (fun g hg hm => by simp at hm; subst hm; exact ownsR_ne hO h2.isP.box (by decide) hg)).reads (CE_wide _)) hl hv).mono ?_
  rintro e w1 ⟨rfl, hJ, k1⟩
  have T1 := TT.ofJ h2 h8 k1
  refine ⟨⟨_, rfl⟩, ⟨⟨T1.box h1 (by decide), hJ, ⟨qs, T1.isB h3 (by decide) (by decide), h4⟩, ⟨ys, T1.isO h5 (by decide) (by decide), h6⟩, h7, h8, h9, h10⟩, hfa.turn T1 (by decide), T1.kept0 hk0, ⟨ga.j.addR h64 hv, ga.i8, ga.inb, ga.out, ga.poi⟩, gb⟩⟩
theorem both_addF (T : Both w0 w P t v s u a b) {x : Value} {l : List Ep} (hI : EvsIn w0 x l) (hl : l.length ≤ 100000) (hv : b.j.ver + l.length < 18446744073709551616) :
    Calls Tryz.prog 56 #[Ptr P.fj, x] w fun e w' => (∃ r, e = .returned (Iv r)) ∧ Both w0 w' P t v s u a (addAc b l) := by
  obtain ⟨hpa, hfa, hk0, ga, gb⟩ := T
  obtain ⟨h1, ⟨u1, h2, h3⟩, ⟨u2, qs, h4, h5⟩, ⟨u3, x3, ys, h6, h7⟩, h8, h9⟩ := hfa
  refine (radd14 h2 gb.j.reg gb.j.e16 (fun W kW => (hI.1.kept ((TT.ofFJ h2 h9 h3 kW).kept0 hk0) (by simp))) hl hv).mono ?_
  rintro e w1 ⟨rfl, ⟨u1', hF, hN⟩, k1⟩
  have T1 := TT.ofFJ h2 h9 h3 k1
  refine ⟨⟨_, rfl⟩, ⟨hpa.turn T1 (by decide), ⟨T1.box h1 (by decide), ⟨u1', hF, fun g hg => ?_⟩, ⟨u2, qs, T1.isFI h4 (by decide) (by decide) (by decide), h5⟩, ⟨u3, x3, ys, T1.isFO h6 (by decide) (by decide) (by decide) (by decide), h7⟩, h8, h9⟩, T1.kept0 hk0, ga, ⟨gb.j.addR hI.2 hv, gb.i8, gb.inb, gb.out, gb.poi⟩⟩⟩
  rcases hN g hg with h | h
  · exact h3 g h
  · have := hk0.size; omega
end
end Go.Proofs.YtdadloaifebdiaaGreat
/-
  New of an actor, and the document's.
-/
namespace Go.Proofs.YtdadloaifebdiaaGreat
set_option maxRecDepth 100000
open Go.RowKit
set_option linter.unusedVariables false
section
variable {w0 w w' : World}
theorem new13_no (key : List UInt8) (h : isKey key = false) (hl : key.length ≤ 281474976710656) : Calls Tryz.prog 13 #[Sv key] w fun e w' => e = .returned (.tuple #[.pointer none, .int .i64 1]) ∧ w = w' := by
  go_enter Tryz.func13, Tryz.ntmps13
  go_wp2_with fail
  refine (new11_no key h hl).mono ?_
  rintro e w1 ⟨rfl, rfl⟩
  go_wp2_with fail
  go_ret2
  exact ⟨rfl, rfl⟩
theorem new13 (key : List UInt8) (h : isKey key = true) (hs : w0.heap.size ≤ w.heap.size) : Calls Tryz.prog 13 #[Sv key] w fun e w' => ∃ p pj pi po, e = .returned (.tuple #[Ptr p, .int .i64 0]) ∧ PA w0 w' p pj pi po 0 (.slice none 0 0) (newA key) ∧ Kept [] w w' := by
  have HN := Hid.mk (new11 (w := w) key h)
  go_enter Tryz.func13, Tryz.ntmps13
  go_wp2_with fail
  refine HN.out.mono ?_
  rintro e w1 ⟨po, rfl, hO, k1, hpo⟩
  clear HN
  go_wp2_with fail
  refine (new11_J (w := w1)).mono ?_
  rintro e w2 ⟨pj, rfl, hJ, k2, hpj⟩
  go_wp2_with fail
  refine (new10 (w := w2)).mono ?_
  rintro e w3 ⟨rfl, hB, k3, hz⟩
  go_wp2_with fail
  go_ret2
  obtain ⟨w4, e4, k4, z4, b4⟩ := box1 w3 (.cells #[Ptr pj, Ptr w2.heap.size, Ptr po, Iv 0, .slice none 0 0] 53)
  rw [e4]
  rw [hz] at b4
  have s1 := k1.size
  have s2 := k2.size
  exact ⟨w2.heap.size + 1, pj, w2.heap.size, po, rfl, ⟨b4, (hJ.kept0 k3).kept0 k4, ⟨[], hB.kept0 k4, rfl⟩, ⟨[], ((hO.kept0 k2).kept0 k3).kept0 k4, rfl⟩, by omega, by omega, by omega, by omega⟩, ((k1.trans k2 (by simp)).trans k3 (by simp)).trans k4 (by simp)⟩
theorem new50_no (key : List UInt8) (h : isKey key = false) (hl : key.length ≤ 281474976710656) : Calls Tryz.prog 50 #[Sv key] w fun e w' => e = .returned (.tuple #[.pointer none, .int .i64 1]) ∧ w = w' := by
  go_enter Tryz.func50, Tryz.ntmps50
  go_wp2_with fail
  refine (new12_no key h hl).mono ?_
  rintro e w1 ⟨rfl, rfl⟩
  go_wp2_with fail
  go_ret2
  exact ⟨rfl, rfl⟩
theorem new50 (key : List UInt8) (h : isKey key = true) (hs : w0.heap.size ≤ w.heap.size) : Calls Tryz.prog 50 #[Sv key] w fun e w' => ∃ f fj fi fo, e = .returned (.tuple #[Ptr f, .int .i64 0]) ∧ FA w0 w' f fj fi fo 0 (.slice none 0 0) (newA key) ∧ Kept [] w w' := by
  have HN := Hid.mk (new12 (w0 := w0) (w := w) key h hs)
  go_enter Tryz.func50, Tryz.ntmps50
  go_wp2_with fail
  refine HN.out.mono ?_
  rintro e w1 ⟨fo, rfl, hO, k1⟩
  clear HN
  go_wp2_with fail
  go_ret2
  obtain ⟨w2, e2, k2, z2, b2⟩ := box1 w1 (.cells #[Iv 0, Iv 0, Iv 0, Iv 0, Iv 0, Iv 0, Iv 0, Iv 0, .slice none 0 0, .int .u64 0] 100)
  obtain ⟨w3, e3, k3, z3, b3⟩ := box1 w2 (.cells #[.slice none 0 0] 70)
  obtain ⟨w4, e4, k4, z4, b4⟩ := box1 w3 (.cells #[Ptr w1.heap.size, Ptr (w1.heap.size + 1), Ptr fo, Iv 0, .slice none 0 0] 72)
  rw [e2, e3, e4]
  rw [z3, z2] at b4
  rw [z2] at b3
  have h1 : IsF_J w2 w1.heap.size (.slice none 0 0) newJ := ⟨b2, OwnsR.nil _ _ _, rfl⟩
  have h3 : IsF_I w0 w3 (w1.heap.size + 1) (.slice none 0 0) [] := ⟨b3, OwnL.nil _ _, by have := k1.size; omega⟩
  have s1 := k1.size
  exact ⟨w1.heap.size + 1 + 1, w1.heap.size, w1.heap.size + 1, fo, rfl, ⟨b4, ⟨_, (h1.kept0 k3).kept0 k4, fresh_nil w0 0⟩, ⟨_, _, h3.kept0 k4, rfl⟩, ⟨_, _, [], ((hO.kept0 k2).kept0 k3).kept0 k4, rfl⟩, by omega, by omega⟩, ((k1.trans k2 (by simp)).trans k3 (by simp)).trans k4 (by simp)⟩
end
end Go.Proofs.YtdadloaifebdiaaGreat
