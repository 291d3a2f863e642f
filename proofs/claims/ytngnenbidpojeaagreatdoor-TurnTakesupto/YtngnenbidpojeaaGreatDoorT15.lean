import Derived.Test.YtngnenbidpojeaaGreatDoorT03
import Derived.Test.YtngnenbidpojeaaGreatDoorT06
import Derived.Test.YtngnenbidpojeaaGreatDoorT10
import Derived.Test.YtngnenbidpojeaaGreatDoorT11
import Derived.Test.YtngnenbidpojeaaGreatDoorT13
import Derived.Test.YtngnenbidpojeaaGreatDoorT14
/-
 An actor in memory, the program's and the document's, side by side, while they are made.
-/
namespace Go.Proofs.YtngnenbidpojeaaGreatDoor
set_option maxRecDepth 100000
open Go.RowKit
set_option linter.unusedVariables false
def TT (ts : List Nat) (w0 w w' : World) : Prop := ∃ S, Kept S w w' ∧ ∀ g ∈ S, w0.heap.size ≤ g ∧ ∃ cs t, w.heap[g]? = some (.cells cs t (0, 0)) ∧ t ∈ ts
section
variable {w0 w w' : World} {ts : List Nat}
theorem TT.of0 (k : Kept [] w w') : TT ts w0 w w' := ⟨[], k, by simp⟩
theorem TT.kept0 (T : TT ts w0 w w') (k : Kept [] w0 w) : Kept [] w0 w' := by
 obtain ⟨S, kS, hS⟩ := T
 exact k.trans kS (fun x hx => .inr (hS x hx).1)
theorem TT.ne {S : List Nat} (hS : ∀ g ∈ S, w0.heap.size ≤ g ∧ ∃ cs t, w.heap[g]? = some (.cells cs t (0, 0)) ∧ t ∈ ts) {g : Nat} {cs : Array Value} {t : TypeId} {fz : Nat × Nat} (h : w.heap[g]? = some (.cells cs t fz)) (ht : t ∉ ts) : g ∉ S := fun hm => by
 obtain ⟨-, cs', t', h', ht'⟩ := hS g hm
 rw [h] at h'
 injection h' with h'
 injection h' with _ e
 subst e
 exact ht ht'
theorem TT.box (T : TT ts w0 w w') {g : Nat} {cs : Array Value} {t : TypeId} {fz : Nat × Nat} (h : w.heap[g]? = some (.cells cs t fz)) (ht : t ∉ ts) : w'.heap[g]? = some (.cells cs t fz) := by
 obtain ⟨S, kS, hS⟩ := T
 exact kS.keeps h (TT.ne hS h ht)
theorem TT.neR {S : List Nat} (hS : ∀ g ∈ S, w0.heap.size ≤ g ∧ ∃ cs t, w.heap[g]? = some (.cells cs t (0, 0)) ∧ t ∈ ts) {e : TypeId} {k : Nat} {v : Value} {rs : List (List Value)} (h : OwnsR e k w v rs) (ht : e ∉ ts) : ∀ g, v.ownBlock = some g → g ∉ S := fun g hg => by
 rcases ownR_form h with ⟨rfl, -⟩ | ⟨g1, cap, cur, rfl, hb⟩
 ·simp [Value.ownBlock] at hg
 ·simp [Value.ownBlock] at hg
  subst hg
  exact TT.ne hS hb ht
theorem TT.neJ {S : List Nat} (hS : ∀ g ∈ S, w0.heap.size ≤ g ∧ ∃ cs t, w.heap[g]? = some (.cells cs t (0, 0)) ∧ t ∈ ts) {v : Value} {l : List Int} (h : OwnsJ w v l) (ht : (2 : Nat) ∉ ts) : ∀ g, v.ownBlock = some g → g ∉ S := fun g hg => by
 obtain ⟨cs, hb⟩ := ownsJ_type h hg
 exact TT.ne hS hb ht
theorem TT.isJ {p : Nat} {j : Jn} (T : TT ts w0 w w') (h : IsJ w p j) (ht : (177 : Nat) ∉ ts) : IsJ w' p j := by
 obtain ⟨S, kS, hS⟩ := T
 exact h.kept kS (TT.ne hS h.isP.box ht)
theorem TT.isB {p : Nat} {qs : List Lq} (T : TT ts w0 w w') (h : IsB w p qs) (ht : (140 : Nat) ∉ ts) (h2 : (2 : Nat) ∉ ts) : IsB w' p qs := by
 obtain ⟨S, kS, hS⟩ := T
 exact h.kept kS (TT.ne hS h.box ht) fun q hq => TT.neJ hS (h.args q hq) h2
theorem TT.isO {p : Nat} {own : List UInt8} {K : List La} {qs : List Yq} (T : TT ts w0 w w') (h : IsO w p own K qs) (ht : (168 : Nat) ∉ ts) (h2 : (2 : Nat) ∉ ts) : IsO w' p own K qs := by
 obtain ⟨S, kS, hS⟩ := T
 obtain ⟨cs, hb⟩ := h.bx
 exact h.kept kS (TT.ne hS hb ht) fun q hq => TT.neJ hS (h.args q hq) h2
theorem TT.isFJ {f : Nat} {v : Value} {j : Jn} (T : TT ts w0 w w') (h : IsF_J w f v j) (ht : (137 : Nat) ∉ ts) (h2 : (93 : Nat) ∉ ts) : IsF_J w' f v j := by
 obtain ⟨S, kS, hS⟩ := T
 exact h.kept kS (TT.ne hS h.box ht) (TT.neR hS h.own h2)
theorem TT.isFI {f : Nat} {v : Value} {qs : List Lq} {w1 : World} (T : TT ts w0 w w') (h : IsF_I w1 w f v qs) (ht : (56 : Nat) ∉ ts) (h2 : (81 : Nat) ∉ ts) (h3 : (2 : Nat) ∉ ts) : IsF_I w1 w' f v qs := by
 obtain ⟨S, kS, hS⟩ := T
 refine ⟨kS.keeps h.box (TT.ne hS h.box ht), h.own.kept kS fun y hy => ⟨fun e => TT.neR hS h.own.own h2 y e hy, fun q hq e => TT.neJ hS (h.own.args q hq) h3 y e hy⟩, h.fr⟩
theorem TT.isFO {f : Nat} {v u : Value} {own : List UInt8} {K : List La} {ms : List Yq} {w1 : World} (T : TT ts w0 w w') (h : IsF w1 w f v u own K ms) (ht : (124 : Nat) ∉ ts) (h2 : (131 : Nat) ∉ ts) (h3 : (198 : Nat) ∉ ts) (h4 : (2 : Nat) ∉ ts) : IsF w1 w' f v u own K ms := by
 obtain ⟨S, kS, hS⟩ := T
 exact ⟨kS.keeps h.box (TT.ne hS h.box ht), h.ys.kept kS fun y hy => ⟨fun e => TT.neR hS h.ys.own h2 y e hy, fun q hq e => TT.neJ hS (h.ys.args q hq) h4 y e hy⟩, h.ks.kept kS (TT.neR hS h.ks h3), h.fru, h.fr⟩
theorem TT.ofJ {p : Nat} {j : Jn} (h : IsJ w p j) (hp : w0.heap.size ≤ p) (k : Kept [p] w w') : TT [177] w0 w w' :=
 ⟨[p], k, fun g hg => by simp at hg; subst hg; exact ⟨hp, _, _, h.isP.box, by simp⟩⟩
theorem TT.ofB {p : Nat} {qs : List Lq} (h : IsB w p qs) (hp : w0.heap.size ≤ p) (k : Kept [p] w w') : TT [140] w0 w w' :=
 ⟨[p], k, fun g hg => by simp at hg; subst hg; exact ⟨hp, _, _, h.box, by simp⟩⟩
theorem TT.ofO {p : Nat} {own : List UInt8} {K : List La} {qs : List Yq} (h : IsO w p own K qs) (hp : w0.heap.size ≤ p) (k : Kept [p] w w') : TT [168] w0 w w' := by
 obtain ⟨cs, hb⟩ := h.bx
 exact ⟨[p], k, fun g hg => by simp at hg; subst hg; exact ⟨hp, _, _, hb, by simp⟩⟩
theorem TT.ofFJ {f : Nat} {v : Value} {j : Jn} (h : IsF_J w f v j) (hf : w0.heap.size ≤ f) (hv : Fresh w0 v) (k : Kept (foot f v) w w') : TT [137, 93] w0 w w' := by
 refine ⟨_, k, fun g hg => ?_⟩
 rcases mem_foot.1 hg with e | e
 ·subst e; exact ⟨hf, _, _, h.box, by simp⟩
 ·refine ⟨hv g e, ?_⟩
  rcases ownR_form h.own with ⟨rfl, -⟩ | ⟨g1, cap, cur, rfl, hb⟩
  ·simp [Value.ownBlock] at e
  ·simp [Value.ownBlock] at e
   subst e
   exact ⟨_, _, hb, by simp⟩
theorem TT.ofFI {f : Nat} {v : Value} {qs : List Lq} (h : IsF_I w0 w f v qs) (k : Kept (foot f v) w w') : TT [56, 81] w0 w w' := by
 refine ⟨_, k, fun g hg => ?_⟩
 rcases mem_foot.1 hg with e | e
 ·subst e; exact ⟨h.fr, _, _, h.box, by simp⟩
 ·refine ⟨h.own.fr g e, ?_⟩
  rcases ownR_form h.own.own with ⟨rfl, -⟩ | ⟨g1, cap, cur, rfl, hb⟩
  ·simp [Value.ownBlock] at e
  ·simp [Value.ownBlock] at e
   subst e
   exact ⟨_, _, hb, by simp⟩
theorem TT.ofFO {f : Nat} {v u : Value} {own : List UInt8} {K : List La} {ms : List Yq} (h : IsF w0 w f v u own K ms) (k : Kept (footF f v u) w w') : TT [124, 131, 198] w0 w w' := by
 refine ⟨_, k, fun g hg => ?_⟩
 rcases mem_footF.1 hg with e | e | e
 ·subst e; exact ⟨h.fr, _, _, h.box, by simp⟩
 ·refine ⟨h.ys.fr g e, ?_⟩
  rcases ownR_form h.ys.own with ⟨rfl, -⟩ | ⟨g1, cap, cur, rfl, hb⟩
  ·simp [Value.ownBlock] at e
  ·simp [Value.ownBlock] at e
   subst e
   exact ⟨_, _, hb, by simp⟩
 ·refine ⟨h.fru g e, ?_⟩
  rcases ownR_form h.ks with ⟨rfl, -⟩ | ⟨g1, cap, cur, rfl, hb⟩
  ·simp [Value.ownBlock] at e
  ·simp [Value.ownBlock] at e
   subst e
   exact ⟨_, _, hb, by simp⟩
end
structure Pt where
 p : Nat
 j : Nat
 i : Nat
 o : Nat
 f : Nat
 fj : Nat
 fi : Nat
 fo : Nat
abbrev Ptr (g : Nat) : Value := .pointer (some ⟨g, 0, none⟩)
structure PA (w0 w : World) (p pj pi po : Nat) (t : Int) (v : Value) (a : Ac) : Prop where
 box : w.heap[p]? = some (.cells #[Ptr pj, Ptr pi, Ptr po, Iv t, v] 66 (0, 0))
 j : IsJ w pj a.j
 i : ∃ qs, IsB w pi qs ∧ qs.map (·.x) = a.inb
 o : ∃ ys, IsO w po a.out.own a.out.K ys ∧ ys.map ot = a.out.L
 hp : w0.heap.size ≤ p
 hj : w0.heap.size ≤ pj
 hi : w0.heap.size ≤ pi
 ho : w0.heap.size ≤ po
structure FA (w0 w : World) (f fj fi fo : Nat) (t : Int) (v : Value) (a : Ac) : Prop where
 box : w.heap[f]? = some (.cells #[Ptr fj, Ptr fi, Ptr fo, Iv t, v] 61 (0, 0))
 j : ∃ u, IsF_J w fj u a.j ∧ Fresh w0 u
 i : ∃ u qs, IsF_I w0 w fi u qs ∧ qs.map (·.x) = a.inb
 o : ∃ u x ys, IsF w0 w fo u x a.out.own a.out.K ys ∧ ys.map ot = a.out.L
 hf : w0.heap.size ≤ f
 hj : w0.heap.size ≤ fj
section
variable {w0 w w' : World} {p pj pi po f fj fi fo : Nat} {t : Int} {v : Value} {a b : Ac} {ts : List Nat}
theorem PA.turn (h : PA w0 w p pj pi po t v a) (T : TT ts w0 w w') (ht : ∀ x ∈ [66, 177, 140, 168, 2], x ∉ ts) : PA w0 w' p pj pi po t v a := by
 obtain ⟨h1, h2, ⟨qs, h3, h4⟩, ⟨ys, h5, h6⟩, h7, h8, h9, h10⟩ := h
 exact ⟨T.box h1 (ht _ (by simp)), T.isJ h2 (ht _ (by simp)), ⟨qs, T.isB h3 (ht _ (by simp)) (ht _ (by simp)), h4⟩, ⟨ys, T.isO h5 (ht _ (by simp)) (ht _ (by simp)), h6⟩, h7, h8, h9, h10⟩
theorem FA.turn (h : FA w0 w f fj fi fo t v a) (T : TT ts w0 w w') (ht : ∀ x ∈ [61, 137, 93, 56, 81, 124, 131, 198, 2], x ∉ ts) : FA w0 w' f fj fi fo t v a := by
 obtain ⟨h1, ⟨u1, h2, h3⟩, ⟨u2, qs, h4, h5⟩, ⟨u3, x3, ys, h6, h7⟩, h8, h9⟩ := h
 exact ⟨T.box h1 (ht _ (by simp)), ⟨u1, T.isFJ h2 (ht _ (by simp)) (ht _ (by simp)), h3⟩, ⟨u2, qs, T.isFI h4 (ht _ (by simp)) (ht _ (by simp)) (ht _ (by simp)), h5⟩, ⟨u3, x3, ys, T.isFO h6 (ht _ (by simp)) (ht _ (by simp)) (ht _ (by simp)) (ht _ (by simp)), h7⟩, h8, h9⟩
theorem PA.kept0 (h : PA w0 w p pj pi po t v a) (k : Kept [] w w') : PA w0 w' p pj pi po t v a := h.turn (ts := []) (TT.of0 k) (by simp)
theorem FA.kept0 (h : FA w0 w f fj fi fo t v a) (k : Kept [] w w') : FA w0 w' f fj fi fo t v a := h.turn (ts := []) (TT.of0 k) (by simp)
end
structure Both (w0 w : World) (P : Pt) (t : Int) (v : Value) (s : Int) (u : Value) (a b : Ac) : Prop where
 pa : PA w0 w P.p P.j P.i P.o t v a
 fa : FA w0 w P.f P.fj P.fi P.fo s u b
 k : Kept [] w0 w
 ga : GoodP a
 gb : GoodP b
section
variable {w0 w w' : World} {P : Pt} {t s : Int} {v u : Value} {a b : Ac}
theorem Both.kept0 (T : Both w0 w P t v s u a b) (k : Kept [] w w') : Both w0 w' P t v s u a b := ⟨T.pa.kept0 k, T.fa.kept0 k, T.k.trans k (by simp), T.ga, T.gb⟩
theorem pushL_good {l : List Lt} {x : Lt} (h8 : l.length ≤ 8) (hl : ∀ y ∈ l, y.ok ∧ y.formed = true) (hx : x.ok) : (pushL l x).length ≤ 8 ∧ ∀ y ∈ pushL l x, y.ok ∧ y.formed = true := by
 unfold pushL
 split
 ·rename_i h
  refine ⟨by rw [List.length_append]; simp; omega, fun y hy => ?_⟩
  rcases List.mem_append.1 hy with h1 | h1
  ·exact hl y h1
  ·simp at h1; subst h1; exact ⟨hx, h.1⟩
 ·exact ⟨h8, hl⟩
def pushAc (a : Ac) (x : Lt) : Ac := ⟨a.j, pushL a.inb x, a.out, a.tries, a.poi⟩
theorem GoodP.push (h : GoodP a) {x : Lt} (hx : x.ok) : GoodP (pushAc a x) :=
 ⟨h.j, (pushL_good h.i8 h.inb hx).1, (pushL_good h.i8 h.inb hx).2, h.out, h.poi⟩
theorem both_pushP (T : Both w0 w P t v s u a b) (x : Lt) (ad : Option Addr) (c : Nat) (hx : ReadsJ w (.slice ad x.args.length c) x.args) (hok : x.ok) :
  Calls Tryz.prog 22 #[Ptr P.i, Lv x ad c] w fun e w' => (∃ r, e = .returned (Iv r)) ∧ Both w0 w' P t v s u (pushAc a x) b := by
 obtain ⟨hpa, hfa, hk, ga, gb⟩ := T
 obtain ⟨h1, h2, ⟨qs, h3, h4⟩, ⟨ys, h5, h6⟩, h7, h8, h9, h10⟩ := hpa
 refine (push11 x ad c h3 hx hok).mono ?_
 rintro e w1 ⟨qs', rfl, hB, hm, k1, -⟩
 have T1 := TT.ofB h3 h9 k1
 refine ⟨⟨_, rfl⟩, ⟨⟨T1.box h1 (by decide), T1.isJ h2 (by decide), ⟨qs', hB, by rw [hm, h4]; rfl⟩, ⟨ys, T1.isO h5 (by decide) (by decide), h6⟩, h7, h8, h9, h10⟩, hfa.turn T1 (by decide), T1.kept0 hk, ga.push hok, gb⟩⟩
theorem both_pushF (T : Both w0 w P t v s u a b) (x : Lt) (ad : Option Addr) (c : Nat) (hx : ReadsJ w (.slice ad x.args.length c) x.args) (hok : x.ok) :
  Calls Tryz.prog 25 #[Ptr P.fi, Lv x ad c] w fun e w' => (∃ r, e = .returned (Iv r)) ∧ Both w0 w' P t v s u a (pushAc b x) := by
 obtain ⟨hpa, hfa, hk, ga, gb⟩ := T
 obtain ⟨h1, ⟨u1, h2, h3⟩, ⟨u2, qs, h4, h5⟩, ⟨u3, x3, ys, h6, h7⟩, h8, h9⟩ := hfa
 have hl : qs.length ≤ 8 := by have := gb.i8; rw [← h5, List.length_map] at this; exact this
 refine (rpush12 x ad c h4 hl hx hk.size).mono ?_
 rintro e w1 ⟨rfl, v', qs', hF, hm, k1⟩
 have T1 := TT.ofFI h4 k1
 refine ⟨⟨_, rfl⟩, ⟨hpa.turn T1 (by decide), ⟨T1.box h1 (by decide), ⟨u1, T1.isFJ h2 (by decide) (by decide), h3⟩, ⟨v', qs', hF, by rw [hm, h5]; rfl⟩, ⟨u3, x3, ys, T1.isFO h6 (by decide) (by decide) (by decide) (by decide), h7⟩, h8, h9⟩, T1.kept0 hk, ga, gb.push hok⟩⟩
end
def sndO (o : Ob) (to : List UInt8) (kind : Int) (args : List Int) : Ob :=
 if isKey to = true ∧ args.length ≤ 4 ∧ o.L.length ≠ 32 ∧ (hasK o.K to = true ∨ o.K.length ≠ 64) then sendO o to kind args else o
def SerB (o : Ob) (B : Nat) : Prop := ∀ y ∈ o.K, y.s ≤ B
theorem SerB.le {o : Ob} {B : Nat} (h : SerB o B) (to : List UInt8) : ser o.K to ≤ B := by
 cases hk : hasK o.K to with
 | false => rw [(has_not hk).1]; omega
 | true =>
  obtain ⟨s, h1, h2⟩ := has_at hk
  rw [h2]
  exact h _ (List.mem_of_getElem? h1)
theorem SerB.snd {o : Ob} {B : Nat} (h : SerB o B) (to : List UInt8) (kind : Int) (args : List Int) : SerB (sndO o to kind args) (B + 1) := by
 unfold sndO
 split
 ·intro y hy
  rcases setK_mem hy with rfl | hy
  ·show ser o.K to + 1 ≤ _
   have := h.le to
   omega
  ·have := h y hy
   omega
 ·intro y hy
  have := h y hy
  omega
theorem GoodO.snd {o : Ob} (g : GoodO o) {B : Nat} (hB : SerB o B) (h6 : B < 4611686018427387904) {to : List UInt8} {kind : Int} {args : List Int} (hk : I64 kind) (ha : ∀ z ∈ args, I64 z) : GoodO (sndO o to kind args) := by
 unfold sndO
 split
 ·rename_i h
  have h3 := g.ln
  have h4 := g.kn
  have h5 := hB.le to
  refine g.send h.1 hk ha h.2.1 (by omega) ?_ (by show _ < _; omega)
  rcases h.2.2.2 with h | h
  ·exact .inl h
  ·right; omega
 ·exact g
theorem sndO_own (o : Ob) (to : List UInt8) (kind : Int) (args : List Int) : (sndO o to kind args).own = o.own := by unfold sndO; split <;> rfl
section
variable {w0 w w' : World} {P : Pt} {t s : Int} {v u : Value} {a b : Ac}
def sendAc (a : Ac) (to : List UInt8) (kind : Int) (args : List Int) : Ac := ⟨a.j, a.inb, sndO a.out to kind args, a.tries, a.poi⟩
def addAc (a : Ac) (l : List Ep) : Ac := ⟨addR a.j l, a.inb, a.out, a.tries, a.poi⟩
theorem both_addP (T : Both w0 w P t v s u a b) {x : Value} {l : List Ep} (hO : OwnsR 92 2 w x (CE l)) (h64 : ∀ e ∈ l, E64 e) (hl : l.length ≤ 1000000) (hv : a.j.ver + l.length < 18446744073709551616) :
  Calls Tryz.prog 28 #[Ptr P.j, x] w fun e w' => (∃ r, e = .returned (Iv r)) ∧ Both w0 w' P t v s u (addAc a l) b := by
 obtain ⟨hpa, hfa, hk0, ga, gb⟩ := T
 obtain ⟨h1, h2, ⟨qs, h3, h4⟩, ⟨ys, h5, h6⟩, h7, h8, h9, h10⟩ := hpa
 refine (add12 h2 ga.j.reg (fun W kW => (hO.kept kW (fun g hg hm => by simp at hm; subst hm; exact ownsR_ne hO h2.isP.box (by decide) hg)).reads (CE_wide _)) hl hv).mono ?_
 rintro e w1 ⟨rfl, hJ, k1⟩
 have T1 := TT.ofJ h2 h8 k1
 refine ⟨⟨_, rfl⟩, ⟨⟨T1.box h1 (by decide), hJ, ⟨qs, T1.isB h3 (by decide) (by decide), h4⟩, ⟨ys, T1.isO h5 (by decide) (by decide), h6⟩, h7, h8, h9, h10⟩, hfa.turn T1 (by decide), T1.kept0 hk0, ⟨ga.j.addR h64 hv, ga.i8, ga.inb, ga.out, ga.poi⟩, gb⟩⟩
theorem both_addF (T : Both w0 w P t v s u a b) {x : Value} {l : List Ep} (hI : EvsIn w0 x l) (hl : l.length ≤ 100000) (hv : b.j.ver + l.length < 18446744073709551616) :
  Calls Tryz.prog 29 #[Ptr P.fj, x] w fun e w' => (∃ r, e = .returned (Iv r)) ∧ Both w0 w' P t v s u a (addAc b l) := by
 obtain ⟨hpa, hfa, hk0, ga, gb⟩ := T
 obtain ⟨h1, ⟨u1, h2, h3⟩, ⟨u2, qs, h4, h5⟩, ⟨u3, x3, ys, h6, h7⟩, h8, h9⟩ := hfa
 refine (radd14 h2 gb.j.reg gb.j.e16 (fun W kW => (hI.1.kept ((TT.ofFJ h2 h9 h3 kW).kept0 hk0) (by simp))) hl hv).mono ?_
 rintro e w1 ⟨rfl, ⟨u1', hF, hN⟩, k1⟩
 have T1 := TT.ofFJ h2 h9 h3 k1
 refine ⟨⟨_, rfl⟩, ⟨hpa.turn T1 (by decide), ⟨T1.box h1 (by decide), ⟨u1', hF, fun g hg => ?_⟩, ⟨u2, qs, T1.isFI h4 (by decide) (by decide) (by decide), h5⟩, ⟨u3, x3, ys, T1.isFO h6 (by decide) (by decide) (by decide) (by decide), h7⟩, h8, h9⟩, T1.kept0 hk0, ga, ⟨gb.j.addR hI.2 hv, gb.i8, gb.inb, gb.out, gb.poi⟩⟩⟩
 rcases hN g hg with h | h
 ·exact h3 g h
 ·have := hk0.size; omega
end
section
variable {w0 w w' : World}
theorem new13 (key : List UInt8) (h : isKey key = true) (hs : w0.heap.size ≤ w.heap.size) : Calls Tryz.prog 18 #[Sv key] w fun e w' => ∃ p pj pi po, e = .returned (.tuple #[Ptr p, .int .i64 0]) ∧ PA w0 w' p pj pi po 0 (.slice none 0 0) (newA key) ∧ Kept [] w w' := by
 have HN := Hid.mk (new11 (w := w) key h)
 go_enter Tryz.func18, Tryz.ntmps18
 go_wp2_with fail
 refine HN.out.mono ?_
 rintro e w1 ⟨po, rfl, hO, k1, hpo⟩
 clear HN
 go_wp2_with fail
 refine (new11_J (w := w1)).mono ?_
 rintro e w2 ⟨pj, rfl, hJ, k2, hpj⟩
 go_wp2_with fail
 refine (new10 (w := w2)).mono ?_
 rintro e w3 ⟨rfl, hB, k3, hz⟩
 go_wp2_with fail
 go_ret2
 obtain ⟨w4, e4, k4, z4, b4⟩ := box1 w3 (.cells #[Ptr pj, Ptr w2.heap.size, Ptr po, Iv 0, .slice none 0 0] 66)
 rw [e4]
 rw [hz] at b4
 have s1 := k1.size
 have s2 := k2.size
 exact ⟨w2.heap.size + 1, pj, w2.heap.size, po, rfl, ⟨b4, (hJ.kept0 k3).kept0 k4, ⟨[], hB.kept0 k4, rfl⟩, ⟨[], ((hO.kept0 k2).kept0 k3).kept0 k4, rfl⟩, by omega, by omega, by omega, by omega⟩, ((k1.trans k2 (by simp)).trans k3 (by simp)).trans k4 (by simp)⟩
theorem new50 (key : List UInt8) (h : isKey key = true) (hs : w0.heap.size ≤ w.heap.size) : Calls Tryz.prog 24 #[Sv key] w fun e w' => ∃ f fj fi fo, e = .returned (.tuple #[Ptr f, .int .i64 0]) ∧ FA w0 w' f fj fi fo 0 (.slice none 0 0) (newA key) ∧ Kept [] w w' := by
 have HN := Hid.mk (new12 (w0 := w0) (w := w) key h hs)
 go_enter Tryz.func24, Tryz.ntmps24
 go_wp2_with fail
 refine HN.out.mono ?_
 rintro e w1 ⟨fo, rfl, hO, k1⟩
 clear HN
 go_wp2_with fail
 go_ret2
 obtain ⟨w2, e2, k2, z2, b2⟩ := box1 w1 (.cells #[Iv 0, Iv 0, Iv 0, Iv 0, Iv 0, Iv 0, Iv 0, Iv 0, .slice none 0 0, .int .u64 0] 137)
 obtain ⟨w3, e3, k3, z3, b3⟩ := box1 w2 (.cells #[.slice none 0 0] 56)
 obtain ⟨w4, e4, k4, z4, b4⟩ := box1 w3 (.cells #[Ptr w1.heap.size, Ptr (w1.heap.size + 1), Ptr fo, Iv 0, .slice none 0 0] 61)
 rw [e2, e3, e4]
 rw [z3, z2] at b4
 rw [z2] at b3
 have h1 : IsF_J w2 w1.heap.size (.slice none 0 0) newJ := ⟨b2, OwnsR.nil _ _ _, rfl⟩
 have h3 : IsF_I w0 w3 (w1.heap.size + 1) (.slice none 0 0) [] := ⟨b3, OwnL.nil _ _, by have := k1.size; omega⟩
 have s1 := k1.size
 exact ⟨w1.heap.size + 1 + 1, w1.heap.size, w1.heap.size + 1, fo, rfl, ⟨b4, ⟨_, (h1.kept0 k3).kept0 k4, fresh_nil w0 0⟩, ⟨_, _, h3.kept0 k4, rfl⟩, ⟨_, _, [], ((hO.kept0 k2).kept0 k3).kept0 k4, rfl⟩, by omega, by omega⟩, ((k1.trans k2 (by simp)).trans k3 (by simp)).trans k4 (by simp)⟩
end
section
variable {w : World}
set_option maxHeartbeats 2000000 in
theorem copyAll57 {a : Option Addr} {n c : Nat} {l : List Lq} (hr : RowQ w (.slice a n c) l) (hv : ValsQ w l) (hl : n ≤ 100000) (ha : ∀ q ∈ l, q.x.args.length ≤ 100000) :
  Calls Tryz.prog 30 #[.slice a n c] w fun e w' => ∃ v, e = .returned v ∧ ∃ qs, OwnL w w' v qs ∧ qs.map (·.x) = l.map (·.x) ∧ Kept [] w w' := by
 obtain ⟨hn, hc1, hc2⟩ := hr.bound
 have HN := Hid.mk hn
 have HR := Hid.mk hr
 have HV := Hid.mk hv
 have HA := Hid.mk ha
 clear hr hn hv ha
 go_enter Tryz.func30, Tryz.ntmps30
 go_wp2_with fail
 go_loopw [7, 3] (fun i u wr => ∃ (k : Nat) (ad : Option Addr) (cp : Nat), i = .int .i64 (k : Int) ∧ k ≤ n ∧ u = .slice ad k cp ∧ Hid (∃ qs, OwnL w wr (.slice ad k cp) qs ∧ qs.map (·.x) = (l.take k).map (·.x) ∧ Kept [] w wr)) (fun i _ _ => n - (intOf i).toNat)
 case atStart => exact ⟨0, none, 0, rfl, by omega, rfl, Hid.mk ⟨[], OwnL.nil w w, by simp, Kept.refl [] w⟩⟩
 case round =>
  obtain ⟨k, ad, cp, rfl, hk, rfl, H⟩ := hrel
  by_cases hlt : k < n
  ·obtain ⟨q, hq⟩ : ∃ q, l[k]? = some q := ⟨_, List.getElem?_eq_getElem (by have := HN.out; omega)⟩
   have hqm := List.mem_of_getElem? hq
   obtain ⟨qs, hO, hm, kk⟩ := H.out
   obtain ⟨b, o, rfl, d0, d1, d2, d3⟩ := (HR.out.kept kk (by simp)).at hq
   have hkI : (k : Int) < (n : Int) := by omega
   have HC := Hid.mk (copy25 q.x q.ad q.cap ((HV.out q hqm).kept kk (by simp)) (HA.out q hqm))
   have HQ := Hid.mk hq
   have hql : qs.length = k := by
    have := congrArg List.length hm
    rw [List.length_map, List.length_map, List.length_take] at this
    have := HN.out
    omega
   have HO : Hid (OwnL w wr (.slice ad k cp) qs ∧ qs.map (·.x) = (l.take k).map (·.x) ∧ Kept [] w wr ∧ qs.length = k) := ⟨hO, hm, kk, hql⟩
   clear hO hm kk hql hq hqm H
   go_wp2_with fail
   refine HC.out.mono ?_
   rintro e w1 ⟨a1, c1, rfl, hJ1, k1, hf1⟩
   obtain ⟨hO, hm, kk, hql⟩ := HO.out
   have hO1 := hO.kept0 k1
   have kk1 := kk.trans k1 (by simp)
   obtain ⟨ad2, c2, w2, hrun, hO2, k2⟩ := hO1.app ⟨q.x, a1, c1⟩ hJ1 (fun g hg => by have := hf1 g hg; have := kk.size; omega) kk1.size (by omega)
   rw [hql] at hrun hO2
   have hrun' : (Builtin.append_ #[26, 26] 26 #[.slice ad k cp, .slice (some ⟨w1.heap.size, 0, none⟩) 1 1]).run Tryz.prog (w1.alloc (.cells #[Sv q.x.fr, .int .u64 (q.x.ser : Int), .int .i64 q.x.kind, .slice a1 q.x.args.length c1] 81)) = .ok (.slice ad2 (k + 1) c2) w2 := hrun
   have H2 : Hid (∃ qs, OwnL w w2 (.slice ad2 (k + 1) c2) qs ∧ qs.map (·.x) = (l.take (k + 1)).map (·.x) ∧ Kept [] w w2) := by
    refine ⟨_, hO2, ?_, kk1.trans k2 (fun x hx => .inr (hO.fr x (by rw [Option.mem_toList] at hx; exact hx)))⟩
    rw [List.take_add_one, HQ.out, List.map_append, List.map_append, hm]
    rfl
   clear hO hm kk hql hO1 kk1 hO2 k2 hJ1 k1 hf1 hrun d0 d1 d2 d3 HO HC
   go_wp2_with (refine wpList_append_run 26 26 _ _ rfl (by rfl) _ _ (by rfl) (by rfl) _ _ hrun' ?_)
   go_roundw
   case rel => exact ⟨k + 1, ad2, c2, by go_num, by omega, rfl, H2⟩
   case measure => simp [intOf]; omega
  ·obtain rfl : k = n := by omega
   have hkI : ((k : Int) < (k : Int)) = False := eq_false (by omega)
   obtain ⟨qs, hO, hm, kk⟩ := H.out
   rw [List.take_of_length_le (by have := HN.out; omega)] at hm
   have HF : Hid (OwnL w wr (.slice ad k cp) qs ∧ qs.map (·.x) = l.map (·.x) ∧ Kept [] w wr) := ⟨hO, hm, kk⟩
   clear hO hm kk H
   go_wp2_with fail
   go_ret
   obtain ⟨hO, hm, kk⟩ := HF.out
   exact ⟨_, rfl, qs, hO, hm, kk⟩
set_option maxHeartbeats 2000000 in
theorem sound29 (t : Int) (m : Nat) {a : Option Addr} {n c : Nat} {l : List Lq} (hr : RowQ w (.slice a n c) l) : Calls Tryz.prog 37 #[.int .i64 t, .int .i64 (m : Int), .slice a n c] w fun e w' => e = .returned (.bool (soundA t m (l.map (·.x)))) ∧ Kept [] w w' := by
 obtain ⟨hn, hc1, hc2⟩ := hr.bound
 have HN := Hid.mk hn
 have HR := Hid.mk hr
 have HS : Hid (soundA t m (l.map (·.x)) = true ↔ 0 ≤ t ∧ t ≤ 2 ∧ (m = 0 → t = 0) ∧ n ≤ 8 ∧ ∀ q ∈ l, q.x.formed = true) := Hid.mk (by
  rw [soundA_iff, List.length_map, hn]
  simp)
 clear hr hn
 generalize soundA t m (l.map (·.x)) = S at *
 have no : ¬(0 ≤ t ∧ t ≤ 2 ∧ (m = 0 → t = 0) ∧ n ≤ 8 ∧ ∀ q ∈ l, q.x.formed = true) → Hid (S = false) := fun h => by
  cases hS : S with
  | false => exact Hid.mk rfl
  | true => exact absurd (HS.out.1 hS) h
 have yes : (0 ≤ t ∧ t ≤ 2 ∧ (m = 0 → t = 0) ∧ n ≤ 8 ∧ ∀ q ∈ l, q.x.formed = true) → S = true := HS.out.2
 go_enter Tryz.func37, Tryz.ntmps37
 by_cases h0 : t < 0
 ·have h := no (by omega)
  clear no yes
  go_wp2_with fail
  go_ret
  rw [h.out]
  exact ⟨rfl, Kept.refl [] w⟩
 ·have g0 : (t < 0) = False := eq_false h0
  by_cases h1 : 2 < t
  ·have h := no (by omega)
   clear no yes
   go_wp2_with fail
   go_ret
   rw [h.out]
   exact ⟨rfl, Kept.refl [] w⟩
  ·have g1 : (2 < t) = False := eq_false h1
   by_cases h2 : 0 < t ∧ m = 0
   ·have h := no (fun h => by have := h.2.2.1 h2.2; omega)
    clear no yes
    obtain ⟨h2, rfl⟩ := h2
    go_wp2_with fail
    go_ret
    rw [h.out]
    exact ⟨rfl, Kept.refl [] w⟩
   ·by_cases h3 : 8 < n
    ·have h := no (by omega)
     have g3 : (8 : Int) < (n : Int) := by omega
     have h4 : t = 0 ∨ (0 < t ∧ ((m : Int) == 0) = false) := by
      by_cases h5 : 0 < t
      ·exact .inr ⟨h5, beq_eq_false_iff_ne.2 (fun e => h2 ⟨h5, by omega⟩)⟩
      ·left; omega
     clear no yes h2
     rcases h4 with rfl | ⟨h4, h5⟩
     all_goals go_wp2_with fail
     all_goals go_ret
     all_goals rw [h.out]
     all_goals exact ⟨rfl, Kept.refl [] w⟩
    ·have g3 : ((8 : Int) < (n : Int)) = False := eq_false (by omega)
     have h4 : t = 0 ∨ (0 < t ∧ ((m : Int) == 0) = false) := by
      by_cases h5 : 0 < t
      ·exact .inr ⟨h5, beq_eq_false_iff_ne.2 (fun e => h2 ⟨h5, by omega⟩)⟩
      ·left; omega
     have HY : Hid ((∀ q ∈ l, q.x.formed = true) → S = true) := Hid.mk fun h => yes ⟨by omega, by omega, fun h => by omega, by omega, h⟩
     have HNo : Hid (¬ (∀ q ∈ l, q.x.formed = true) → S = false) := Hid.mk fun h => (no (fun h' => h h'.2.2.2.2)).out
     clear no yes h2
     rcases h4 with rfl | ⟨h4, h5⟩
     all_goals go_wp2_with fail
     ·go_loopw [29] (fun i wr => ∃ j : Nat, i = .int .i64 (j : Int) ∧ j ≤ n ∧ Hid (∀ q ∈ l.take j, q.x.formed = true) ∧ Hid (Kept [] w wr)) (fun i _ => n - (intOf i).toNat)
      case atStart => exact ⟨0, rfl, by omega, Hid.mk (by simp), Hid.mk (Kept.refl [] w)⟩
      case round =>
       obtain ⟨j, rfl, hj, HT, kk⟩ := hrel
       by_cases hlt : j < n
       ·obtain ⟨q, hq⟩ : ∃ q, l[j]? = some q := ⟨_, List.getElem?_eq_getElem (by have := HN.out; omega)⟩
        obtain ⟨b, o, rfl, d0, d1, d2, d3⟩ := (HR.out.kept kk.out (by simp)).at hq
        have HF := Hid.mk (formed14 (w := wr) q.x q.ad q.cap)
        have HQ := Hid.mk hq
        clear hq
        have hjI : (j : Int) < (n : Int) := by omega
        cases hf : q.x.formed with
        | false =>
         rw [hf] at HF
         have hE : Hid (S = false) := Hid.mk (HNo.out fun h => by have := h q (List.mem_of_getElem? HQ.out); rw [hf] at this; cases this)
         clear hf
         go_wp2_with fail
         refine HF.out.mono ?_
         rintro e w1 ⟨rfl, k1⟩
         go_wp2_with fail
         go_ret
         rw [hE.out]
         exact ⟨rfl, kk.out.trans k1 (by simp)⟩
        | true =>
         rw [hf] at HF
         have H2 : Hid (∀ y ∈ l.take (j + 1), y.x.formed = true) := Hid.mk (fun y hy => by
          rw [List.take_add_one, HQ.out] at hy
          rcases List.mem_append.1 hy with h | h
          ·exact HT.out y h
          ·simp at h
           subst h
           exact hf)
         clear hf
         go_wp2_with fail
         refine HF.out.mono ?_
         rintro e w1 ⟨rfl, k1⟩
         have HK1 := Hid.mk (kk.out.trans k1 (by simp))
         clear k1 d0 d1 d2 d3 kk
         go_wp2_with fail
         go_roundw
         case rel => exact ⟨j + 1, by go_num, by omega, H2, HK1⟩
         case measure => simp [intOf]; omega
       ·obtain rfl : j = n := by omega
        have hjI : ((j : Int) < (j : Int)) = False := eq_false (by omega)
        have hE : Hid (S = true) := Hid.mk (HY.out fun q hq => HT.out q (by rw [List.take_of_length_le (by have := HN.out; omega)]; exact hq))
        go_wp2_with fail
        go_ret
        rw [hE.out]
        exact ⟨rfl, kk.out⟩
     ·go_loopw [29] (fun i wr => ∃ j : Nat, i = .int .i64 (j : Int) ∧ j ≤ n ∧ Hid (∀ q ∈ l.take j, q.x.formed = true) ∧ Hid (Kept [] w wr)) (fun i _ => n - (intOf i).toNat)
      case atStart => exact ⟨0, rfl, by omega, Hid.mk (by simp), Hid.mk (Kept.refl [] w)⟩
      case round =>
       obtain ⟨j, rfl, hj, HT, kk⟩ := hrel
       by_cases hlt : j < n
       ·obtain ⟨q, hq⟩ : ∃ q, l[j]? = some q := ⟨_, List.getElem?_eq_getElem (by have := HN.out; omega)⟩
        obtain ⟨b, o, rfl, d0, d1, d2, d3⟩ := (HR.out.kept kk.out (by simp)).at hq
        have HF := Hid.mk (formed14 (w := wr) q.x q.ad q.cap)
        have HQ := Hid.mk hq
        clear hq
        have hjI : (j : Int) < (n : Int) := by omega
        cases hf : q.x.formed with
        | false =>
         rw [hf] at HF
         have hE : Hid (S = false) := Hid.mk (HNo.out fun h => by have := h q (List.mem_of_getElem? HQ.out); rw [hf] at this; cases this)
         clear hf
         go_wp2_with fail
         refine HF.out.mono ?_
         rintro e w1 ⟨rfl, k1⟩
         go_wp2_with fail
         go_ret
         rw [hE.out]
         exact ⟨rfl, kk.out.trans k1 (by simp)⟩
        | true =>
         rw [hf] at HF
         have H2 : Hid (∀ y ∈ l.take (j + 1), y.x.formed = true) := Hid.mk (fun y hy => by
          rw [List.take_add_one, HQ.out] at hy
          rcases List.mem_append.1 hy with h | h
          ·exact HT.out y h
          ·simp at h
           subst h
           exact hf)
         clear hf
         go_wp2_with fail
         refine HF.out.mono ?_
         rintro e w1 ⟨rfl, k1⟩
         have HK1 := Hid.mk (kk.out.trans k1 (by simp))
         clear k1 d0 d1 d2 d3 kk
         go_wp2_with fail
         go_roundw
         case rel => exact ⟨j + 1, by go_num, by omega, H2, HK1⟩
         case measure => simp [intOf]; omega
       ·obtain rfl : j = n := by omega
        have hjI : ((j : Int) < (j : Int)) = False := eq_false (by omega)
        have hE : Hid (S = true) := Hid.mk (HY.out fun q hq => HT.out q (by rw [List.take_of_length_le (by have := HN.out; omega)]; exact hq))
        go_wp2_with fail
        go_ret
        rw [hE.out]
        exact ⟨rfl, kk.out⟩
end
theorem TT.set {w0 w : World} {p i : Nat} {cs : Array Value} {t : Nat} (hb : w.heap[p]? = some (.cells cs t (0, 0))) (hp : w0.heap.size ≤ p) (x : Value) : TT [t] w0 w (w.setCell ⟨p, i, none⟩ x) :=
 ⟨[p], (Kept.refl [p] w).setCell (p := ⟨p, i, none⟩) (.inl (by simp)) x, fun g hg => by simp at hg; subst hg; exact ⟨hp, _, _, hb, by simp⟩⟩
section
variable {w0 w w' : World} {P : Pt} {t s : Int} {v u : Value} {a b : Ac}
theorem Both.setP3 (T : Both w0 w P t v s u a b) (x : Int) : Both w0 (w.setCell ⟨P.p, 3, none⟩ (Iv x)) P x v s u a b := by
 obtain ⟨⟨h1, h2, ⟨qs, h3, h4⟩, ⟨ys, h5, h6⟩, h7, h8, h9, h10⟩, hfa, hk, ga, gb⟩ := T
 have T1 := TT.set (i := 3) h1 h7 (Iv x)
 exact ⟨⟨set_list (L := [_, _, _, _, _]) h1, T1.isJ h2 (by decide), ⟨qs, T1.isB h3 (by decide) (by decide), h4⟩, ⟨ys, T1.isO h5 (by decide) (by decide), h6⟩, h7, h8, h9, h10⟩, hfa.turn T1 (by decide), T1.kept0 hk, ga, gb⟩
theorem Both.setP4 (T : Both w0 w P t v s u a b) (x : Value) : Both w0 (w.setCell ⟨P.p, 4, none⟩ x) P t x s u a b := by
 obtain ⟨⟨h1, h2, ⟨qs, h3, h4⟩, ⟨ys, h5, h6⟩, h7, h8, h9, h10⟩, hfa, hk, ga, gb⟩ := T
 have T1 := TT.set (i := 4) h1 h7 x
 exact ⟨⟨set_list (L := [_, _, _, _, _]) h1, T1.isJ h2 (by decide), ⟨qs, T1.isB h3 (by decide) (by decide), h4⟩, ⟨ys, T1.isO h5 (by decide) (by decide), h6⟩, h7, h8, h9, h10⟩, hfa.turn T1 (by decide), T1.kept0 hk, ga, gb⟩
theorem Both.setF3 (T : Both w0 w P t v s u a b) (x : Int) : Both w0 (w.setCell ⟨P.f, 3, none⟩ (Iv x)) P t v x u a b := by
 obtain ⟨hpa, ⟨h1, ⟨u1, h2, h3⟩, ⟨u2, qs, h4, h5⟩, ⟨u3, x3, ys, h6, h7⟩, h8, h9⟩, hk, ga, gb⟩ := T
 have T1 := TT.set (i := 3) h1 h8 (Iv x)
 exact ⟨hpa.turn T1 (by decide), ⟨set_list (L := [_, _, _, _, _]) h1, ⟨u1, T1.isFJ h2 (by decide) (by decide), h3⟩, ⟨u2, qs, T1.isFI h4 (by decide) (by decide) (by decide), h5⟩, ⟨u3, x3, ys, T1.isFO h6 (by decide) (by decide) (by decide) (by decide), h7⟩, h8, h9⟩, T1.kept0 hk, ga, gb⟩
theorem Both.setF4 (T : Both w0 w P t v s u a b) (x : Value) : Both w0 (w.setCell ⟨P.f, 4, none⟩ x) P t v s x a b := by
 obtain ⟨hpa, ⟨h1, ⟨u1, h2, h3⟩, ⟨u2, qs, h4, h5⟩, ⟨u3, x3, ys, h6, h7⟩, h8, h9⟩, hk, ga, gb⟩ := T
 have T1 := TT.set (i := 4) h1 h8 x
 exact ⟨hpa.turn T1 (by decide), ⟨set_list (L := [_, _, _, _, _]) h1, ⟨u1, T1.isFJ h2 (by decide) (by decide), h3⟩, ⟨u2, qs, T1.isFI h4 (by decide) (by decide) (by decide), h5⟩, ⟨u3, x3, ys, T1.isFO h6 (by decide) (by decide) (by decide) (by decide), h7⟩, h8, h9⟩, T1.kept0 hk, ga, gb⟩
theorem Both.cellsP (T : Both w0 w P t v s u a b) : w.cell? ⟨P.p, 0, none⟩ = some (Ptr P.j) ∧ w.cell? ⟨P.p, 1, none⟩ = some (Ptr P.i) ∧ w.cell? ⟨P.p, 2, none⟩ = some (Ptr P.o) ∧ w.cell? ⟨P.p, 3, none⟩ = some (Iv t) ∧ w.cell? ⟨P.p, 4, none⟩ = some v := by
 have h := T.pa.box
 refine ⟨?_, ?_, ?_, ?_, ?_⟩ <;> (unfold World.cell?; rw [h]; rfl)
theorem Both.cellsF (T : Both w0 w P t v s u a b) : w.cell? ⟨P.f, 0, none⟩ = some (Ptr P.fj) ∧ w.cell? ⟨P.f, 1, none⟩ = some (Ptr P.fi) ∧ w.cell? ⟨P.f, 2, none⟩ = some (Ptr P.fo) ∧ w.cell? ⟨P.f, 3, none⟩ = some (Iv s) ∧ w.cell? ⟨P.f, 4, none⟩ = some u := by
 have h := T.fa.box
 refine ⟨?_, ?_, ?_, ?_, ?_⟩ <;> (unfold World.cell?; rw [h]; rfl)
theorem Both.freeP (T : Both w0 w P t v s u a b) (i : Nat) : w.frozen? ⟨P.p, i, none⟩ = false := by simp [World.frozen?, T.pa.box]
theorem Both.freeF (T : Both w0 w P t v s u a b) (i : Nat) : w.frozen? ⟨P.f, i, none⟩ = false := by simp [World.frozen?, T.fa.box]
end
def pushK (a : Ac) (ls : List Lq) : Nat → Ac
 | 0 => a
 | k + 1 => pushAc (pushK a ls k) (ls.getD k default).x
def sendK (a : Ac) (ts : List (List UInt8)) : Nat → Ac
 | 0 => a
 | k + 1 => sendAc (sendK a ts k) (ts.getD k []) k [k]
theorem pushK_j (a : Ac) (ls : List Lq) (k : Nat) : (pushK a ls k).j = a.j ∧ (pushK a ls k).out = a.out := by
 induction k with
 | zero => exact ⟨rfl, rfl⟩
 | succ k ih => exact ih
theorem sendK_j (a : Ac) (ts : List (List UInt8)) (k : Nat) : (sendK a ts k).j = a.j ∧ (sendK a ts k).inb = a.inb ∧ (sendK a ts k).out.own = a.out.own := by
 induction k with
 | zero => exact ⟨rfl, rfl, rfl⟩
 | succ k ih => exact ⟨ih.1, ih.2.1, (sndO_own _ _ _ _).trans ih.2.2⟩
theorem sendK_ser {a : Ac} (h : SerB a.out 0) (ts : List (List UInt8)) (k : Nat) : SerB (sendK a ts k).out k := by
 induction k with
 | zero => exact h
 | succ k ih => exact ih.snd _ _ _
def ofA (key : List UInt8) (ls : List Lq) (ts : List (List UInt8)) (es : List Ep) (t : Int) (ps : List Lt) : Ac :=
 let a := addAc (sendK (pushK (newA key) ls ls.length) ts ts.length) es
 ⟨a.j, a.inb, a.out, t, ps⟩
def PoiAt (w : World) (v : Value) (ps : List Lt) : Prop := ∃ qs, RowQ w v qs ∧ ValsQ w qs ∧ qs.map (·.x) = ps
def TextsIn (w : World) (v : Value) (ts : List (List UInt8)) : Prop := ReadsR 1 w v (CT ts)
theorem TextsIn.bound {w : World} {a : Option Addr} {n c : Nat} {ts : List (List UInt8)} (h : TextsIn w (.slice a n c) ts) : n = ts.length ∧ n ≤ c ∧ c ≤ 9223372036854775807 := by
 obtain ⟨a', c', he, h1, h2, -⟩ := h
 injection he with e1 e2 e3
 subst e1 e2 e3
 rw [CT, List.length_map] at *
 exact ⟨rfl, h1, by unfold maxLen at h2; omega⟩
theorem TextsIn.at {w : World} {a : Option Addr} {n c : Nat} {ts : List (List UInt8)} (h : TextsIn w (.slice a n c) ts) {k : Nat} {t : List UInt8} (ht : ts[k]? = some t) : ∃ b o, a = some ⟨b, o, none⟩ ∧ w.cell? ⟨b, o + k, none⟩ = some (Sv t) := by
 obtain ⟨a', c', he, h1, h2, h3, h4⟩ := h
 injection he with e1 e2 e3
 subst e1 e2 e3
 have hne : CT ts ≠ [] := fun e => by
  simp [CT] at e
  subst e
  simp at ht
 obtain ⟨b, o, rfl, hc⟩ := h4 hne
 refine ⟨b, o, rfl, ?_⟩
 have := hc k [Sv t] (by simp [CT, ht]) 0 (Sv t) rfl
 simpa using this
theorem TextsIn.kept0 {w w' : World} {v : Value} {ts : List (List UInt8)} (h : TextsIn w v ts) (k : Kept [] w w') : TextsIn w' v ts := ReadsR.kept h k (by simp)
end Go.Proofs.YtngnenbidpojeaaGreatDoor
