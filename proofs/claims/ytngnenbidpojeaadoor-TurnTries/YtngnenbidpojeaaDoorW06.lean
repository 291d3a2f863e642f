import Derived.OpenShut
import Derived.Deep.QuietTactic
import Derived.BigQuiet
import Derived.Test.YtngnenbidpojeaaDoorW03
import Derived.Test.YtngnenbidpojeaaDoorW05
/-
  lay: a letter's bytes behind those that a Writer has.
-/
namespace Go.Proofs.YtngnenbidpojeaaDoor
set_option maxRecDepth 100000
open Go.RowKit
set_option linter.unusedVariables false
section
variable {w : World}
theorem Laid.next {w w1 w2 : World} {p : Nat} {v v1 : Value} {l1 l2 : List UInt8} (h : IsW 145 5 w1 p v1 l1 ∧ Kept (foot p v) w w1 ∧ New w v v1) (h2 : Laid 145 5 w1 p v1 l2 w2) : Laid 145 5 w p v l2 w2 := Laid.trans h.2.1 h.2.2 h2
theorem ReadsJ.kept3 {S : List Nat} {w w' : World} {v : Value} {l : List Int} (h : ReadsJ w v l) (k : Kept S w w') (hn : l ≠ [] → ∀ g, v.ownBlock = some g → g ∉ S) : ReadsJ w' v l := by
  by_cases hl : l = []
  · subst hl
    obtain ⟨a, cap, h1, h2, h3, h4, h5⟩ := h
    exact ⟨a, cap, h1, h2, h3, h4, fun h => absurd rfl h⟩
  · exact h.kept k (hn hl)
theorem ReadsJ.ltg {w : World} {v : Value} {l : List Int} (h : ReadsJ w v l) (hl : l ≠ []) {g : Nat} (hg : v.ownBlock = some g) : g < w.heap.size := by
  obtain ⟨g', h1, h2⟩ := h.lt hl
  rw [hg] at h1
  cases h1
  exact h2
theorem encJ_take (l : List Int) (j : Nat) (z : Int) (h : l[j]? = some z) : encJ (l.take (j + 1)) = encJ (l.take j) ++ enc (fold z) := by
  rw [List.take_add_one, h, encJ_append]
  simp [encJ]
set_option maxRecDepth 100000 in
set_option maxHeartbeats 1000000 in
theorem lay27 (p : Nat) (v : Value) (l : List UInt8) (x : Lt) (a : Option Addr) (c : Nat) (hW : IsW 145 5 w p v l) (hx : ReadsJ w (.slice a x.args.length c) x.args) (ha : x.args ≠ [] → ∀ g, (Value.slice a x.args.length c).ownBlock = some g → g ∉ foot p v) (hok : x.ok)
    (hb : l.length + x.fr.length + 9 * x.args.length + 45 ≤ 140737488355328) :
    Calls Tryd.prog 71 #[.pointer (some ⟨p, 0, none⟩), Lv x a c] w fun e w' => e = .returned (.tuple #[]) ∧ Laid 145 5 w p v (l ++ encL x) w' := by
  have e1 := enc_length x.fr.length
  have e2 := enc_length x.ser
  have e3 := enc_length (fold x.kind)
  have e4 := enc_length x.args.length
  have hs : Hid ((⟨x.fr.toArray⟩ : ByteArray).size = x.fr.length) := Hid.mk (by simp [ByteArray.size])
  obtain ⟨-, hac, hcc⟩ := hx.bound
  have HX := Hid.mk hx
  clear hx
  have hfl := fold_lt x.kind hok.kind.1 hok.kind.2
  have hplt := hW.lt
  have hser := hok.ser
  go_enter Tryd.func71, Tryd.ntmps71
  go_wp2_with fail
  obtain ⟨W0, e0, k0, hz0, hb0⟩ := box1 w (.cells #[Sv x.fr, .int .u64 (x.ser : Int), .int .i64 x.kind, .slice a x.args.length c] 25)
  rw [e0]
  clear e0
  have hW0 := hW.kept k0 (by simp) (by simp)
  have HB : Hid (∀ W, Kept (foot p v) W0 W → W.heap[w.heap.size]? = some (.cells #[Sv x.fr, .int .u64 (x.ser : Int), .int .i64 x.kind, .slice a x.args.length c] 25 (0, 0))) := fun W k => k.keeps hb0 (fun hm => by
    rcases mem_foot.1 hm with h | h
    · omega
    · have := hW.own.lt h; omega)
  have HA : Hid (∀ W, Kept (foot p v) W0 W → ReadsJ W (.slice a x.args.length c) x.args) := fun W k => HX.out.kept3 ((k0.mono (by simp)).trans k (fun x hx => .inl hx)) ha
  have HE : Hid (∀ W, Laid 145 5 W0 p v (l ++ encL x) W → Laid 145 5 w p v (l ++ encL x) W) := fun W h => Laid.trans (k0.mono (by simp)) (New.refl w v) h
  clear hb0 hz0 hplt k0 hW HX
  refine (wtext_any p v l ⟨x.fr.toArray⟩ W0 hW0 (by rw [hs.out]; omega)).mono ?_
  rintro e w1 ⟨rfl, v1, hW1, k1, n1⟩
  rw [hs.out] at hW1
  change IsW 145 5 w1 p v1 (l ++ enc x.fr.length ++ x.fr) at hW1
  obtain ⟨c0, c1, c2, c3⟩ := cells4 (HB.out _ k1)
  go_wp2_with fail
  refine (wnum_any p v1 _ x.ser w1 hW1 hser (by simp only [List.length_append]; omega)).mono ?_
  rintro e w2 ⟨rfl, L2⟩
  obtain ⟨v2, hW2, k2, n2⟩ := Laid.trans k1 n1 L2
  clear L2 hW1 k1 n1 c0 c1 c2 c3
  obtain ⟨c0, c1, c2, c3⟩ := cells4 (HB.out _ k2)
  go_wp2_with fail
  refine (wint_any p v2 _ x.kind w2 hW2 hok.kind.1 hok.kind.2 (by simp only [List.length_append]; omega)).mono ?_
  rintro e w3 ⟨rfl, L3⟩
  obtain ⟨v3, hW3, k3, n3⟩ := Laid.trans k2 n2 L3
  clear L3 hW2 k2 n2 c0 c1 c2 c3
  obtain ⟨c0, c1, c2, c3⟩ := cells4 (HB.out _ k3)
  go_wp2_with fail
  refine (wnum_any p v3 _ x.args.length w3 hW3 (by omega) (by simp only [List.length_append]; omega)).mono ?_
  rintro e w4 ⟨rfl, L4⟩
  have L4 := Laid.trans k3 n3 L4
  obtain ⟨v4, hW4, k4, n4⟩ := id L4
  clear hW3 k3 n3 c0 c1 c2 c3
  obtain ⟨c0, c1, c2, c3⟩ := cells4 (HB.out _ k4)
  go_wp2_with fail
  clear c0 c1 c2 c3 hW4 k4 n4
  go_loopw [27] (fun i wr => ∃ j : Nat, i = .int .i64 (j : Int) ∧ j ≤ x.args.length ∧ Laid 145 5 W0 p v (l ++ enc x.fr.length ++ x.fr ++ enc x.ser ++ enc (fold x.kind) ++ enc x.args.length ++ encJ (x.args.take j)) wr) (fun i _ => x.args.length - (intOf i).toNat)
  case atStart => exact ⟨0, rfl, by omega, by simpa [encJ] using L4⟩
  case round =>
    obtain ⟨j, rfl, hj, v5, hW5, k5, n5⟩ := hrel
    by_cases hlt : j < x.args.length
    · obtain ⟨z, hz⟩ : ∃ z, x.args[j]? = some z := ⟨_, List.getElem?_eq_getElem hlt⟩
      obtain ⟨b, o, rfl, hcell⟩ := (HA.out _ k5).at hz
      have hzk := hok.args z (List.mem_of_getElem? hz)
      have HZ := Hid.mk hz
      have hjI : (j : Int) < (x.args.length : Int) := by omega
      have hlj := encJ_length (x.args.take j)
      rw [List.length_take] at hlj
      clear hz
      go_wp2_with fail
      refine (wint_any p v5 _ z _ hW5 hzk.1 hzk.2 (by simp only [List.length_append]; omega)).mono ?_
      rintro e w6 ⟨rfl, L6⟩
      have L6 := Laid.trans k5 n5 L6
      go_wp2_with fail
      go_roundw
      case rel =>
        refine ⟨j + 1, by go_num, by omega, ?_⟩
        rw [encJ_take _ _ _ HZ.out, ← List.append_assoc]
        exact L6
      case measure => simp [intOf]; omega
    · obtain rfl : j = x.args.length := by omega
      go_wp2
      go_end0
      refine ⟨rfl, HE.out _ ?_⟩
      refine ⟨v5, ?_, k5, n5⟩
      rw [List.take_length] at hW5
      simpa only [encL, List.append_assoc] using hW5
end
end Go.Proofs.YtngnenbidpojeaaDoor
/-
  CodecOne: the walk.
-/
namespace Go.Proofs.YtngnenbidpojeaaDoor
set_option maxRecDepth 100000
open Go.RowKit
attribute [local go_sem ↓] Go.wp_at_zero Go.wp_at_succ
theorem Reads.drew {w : World} {v : Value} {l : List UInt8} (h : Reads w v l) : Reads w.drew v l := h
theorem IsR.drewN {t : TypeId} {w : World} {p : Nat} {v : Value} {l : List UInt8} {bad : Bool} (h : IsR t w p v l bad) (k : Nat) : IsR t (w.drewN k) p v l bad := ⟨h.box, h.reads, h.apart, h.none⟩
theorem IsR.drew {t : TypeId} {w : World} {p : Nat} {v : Value} {l : List UInt8} {bad : Bool} (h : IsR t w p v l bad) : IsR t w.drew p v l bad := ⟨h.box, h.reads, h.apart, h.none⟩
end Go.Proofs.YtngnenbidpojeaaDoor
/-
  Encode, and the document's Lay and Encode.
-/
namespace Go.Proofs.YtngnenbidpojeaaDoor
set_option maxRecDepth 100000
open Go.RowKit
set_option linter.unusedVariables false
section
variable {w : World}
/-- Bytes in new memory, and an error's number. -/
def TwoB (w : World) (B : List UInt8) (E : Int) (e : Ending) (w' : World) : Prop := ∃ v, e = .returned (.tuple #[v, .int .i64 E]) ∧ Owns 5 w' v B ∧ Kept [] w w' ∧ Fresh w v
def encE (x : Lt) : Int := if x.formed = true then 0 else 1
def encB (x : Lt) : List UInt8 := if x.formed = true then encL x else []
theorem fresh_nil (w : World) (c : Nat) : Fresh w (.slice none c 0) := fun g hg => by simp [Value.ownBlock] at hg
theorem newW (w : World) : Calls Tryd.prog 51 #[] w fun e w' => ∃ p, e = .returned (.pointer (some ⟨p, 0, none⟩)) ∧ IsW 145 5 w' p (.slice none 0 0) [] ∧ Kept [] w w' ∧ w.heap.size ≤ p :=
  (new_w w).mono fun e w' ⟨he, hw⟩ => ⟨_, he, by subst hw; exact new_isW w, by subst hw; exact (Kept.refl [] w).alloc _, Nat.le_refl _⟩
theorem foot_nil (p : Nat) : foot p (.slice none 0 0) = [p] := rfl
theorem new_nil {w : World} {v : Value} (h : New w (.slice none 0 0) v) : Fresh w v := fun g hg => by
  rcases h g hg with h1 | h1
  · simp [Value.ownBlock] at h1
  · exact h1
end
end Go.Proofs.YtngnenbidpojeaaDoor
/-
  A letter that is being read: the Reader, the letter's own block, and the answer's.
-/
namespace Go.Proofs.YtngnenbidpojeaaDoor
set_option maxRecDepth 100000
open Go.RowKit
set_option linter.unusedVariables false
/-- What read answers, and leaves. -/
def LetAt (t : TypeId) (w : World) (p : Nat) (v : Value) (l : List UInt8) (bad : Bool) (e : Ending) (w' : World) : Prop :=
  ∃ (x : Lt) (a : Option Addr) (c : Nat), e = .returned (.tuple #[Lv x a c, .bool (rlet l bad).1.isSome]) ∧ (∀ y, (rlet l bad).1 = some y → x = y) ∧ OwnsJ w' (.slice a x.args.length c) x.args ∧ Fresh w (.slice a x.args.length c) ∧ Rest t w p v (rlet l bad).2.1 (rlet l bad).2.2 w'
/-- While a letter is read: the Reader (at p) has the bytes l left, the letter x stands in block lb, the answer's block rb is as it was laid. -/
structure LS (t : TypeId) (w : World) (p : Nat) (v : Value) (rb lb : Nat) (wi : World) (l : List UInt8) (bad : Bool) (x : Lt) (a : Option Addr) (c : Nat) : Prop where
  rd : ∃ vi, IsR t wi p vi l bad ∧ Within v vi
  lbox : wi.heap[lb]? = some (.cells #[Sv x.fr, .int .u64 (x.ser : Int), .int .i64 x.kind, .slice a x.args.length c] 25 (0, 0))
  rbox : wi.heap[rb]? = some (.cells #[Sv [], .int .u64 0, .int .i64 0, .slice none 0 0] 25 (0, 0))
  own : OwnsJ wi (.slice a x.args.length c) x.args
  fr : ∀ g, (Value.slice a x.args.length c).ownBlock = some g → w.heap.size ≤ g ∧ g ≠ lb ∧ g ≠ rb
  kp : Kept [p] w wi
  hp : p < w.heap.size
  hv : ∀ g, v.ownBlock = some g → g < w.heap.size
  hl : w.heap.size ≤ lb
  hr : w.heap.size ≤ rb
  hlr : lb ≠ rb
section
variable {t : TypeId} {w : World} {p : Nat} {v : Value} {rb lb : Nat} {wi wj : World} {l l' : List UInt8} {bad bad' : Bool} {x : Lt} {a : Option Addr} {c : Nat}
theorem LS.next (s : LS t w p v rb lb wi l bad x a c) {vi : Value} (hV : Within v vi) (h : Rest t wi p vi l' bad' wj) : LS t w p v rb lb wj l' bad' x a c := by
  obtain ⟨vj, hR, k, hW⟩ := h
  have hp := s.hp
  have h1 := s.hl
  have h2 := s.hr
  refine ⟨⟨vj, hR, hV.trans hW⟩, k.keeps s.lbox (by simp; omega), k.keeps s.rbox (by simp; omega), s.own.kept k (fun g hg hm => ?_), s.fr, s.kp.trans k (fun y hy => .inl hy), s.hp, s.hv, s.hl, s.hr, s.hlr⟩
  have := s.fr g hg
  simp at hm
  omega
theorem LS.drew (s : LS t w p v rb lb wi l bad x a c) : LS t w p v rb lb wi.drew l bad x a c := by
  obtain ⟨vi, hR, hV⟩ := s.rd
  exact ⟨⟨vi, ⟨hR.box, hR.reads, hR.apart, hR.none⟩, hV⟩, s.lbox, s.rbox, OwnsJ.kept s.own (Kept.refl [] wi).drew (by simp), s.fr, s.kp.drew, s.hp, s.hv, s.hl, s.hr, s.hlr⟩
/-- A store into the letter's block, or a row of its own that grows. -/
theorem LS.turn {S : List Nat} {x' : Lt} {a' : Option Addr} {c' : Nat} (s : LS t w p v rb lb wi l bad x a c) (k : Kept S wi wj) (hS : ∀ y ∈ S, w.heap.size ≤ y ∧ y ≠ rb) (hl : wj.heap[lb]? = some (.cells #[Sv x'.fr, .int .u64 (x'.ser : Int), .int .i64 x'.kind, .slice a' x'.args.length c'] 25 (0, 0)))
    (ho : OwnsJ wj (.slice a' x'.args.length c') x'.args) (hf : ∀ g, (Value.slice a' x'.args.length c').ownBlock = some g → w.heap.size ≤ g ∧ g ≠ lb ∧ g ≠ rb) : LS t w p v rb lb wj l bad x' a' c' := by
  obtain ⟨vi, hR, hV⟩ := s.rd
  have hp := s.hp
  refine ⟨⟨vi, hR.kept k (fun hm => ?_) (fun g hg hm => ?_), hV⟩, hl, k.keeps s.rbox (fun hm => (hS _ hm).2 rfl), ho, hf, s.kp.trans k (fun y hy => .inr (hS y hy).1), s.hp, s.hv, s.hl, s.hr, s.hlr⟩
  · have := hS _ hm; omega
  · have := s.hv g (hV g hg)
    have := hS _ hm
    omega
theorem LS.kept0 (s : LS t w p v rb lb wi l bad x a c) (k : Kept [] wi wj) : LS t w p v rb lb wj l bad x a c := s.turn k (by simp) (k.keeps s.lbox (by simp)) (s.own.kept k (by simp)) s.fr
theorem LS.set (s : LS t w p v rb lb wi l bad x a c) {x' : Lt} (u : Value) (k : Nat) (ha : x'.args = x.args) (hl : (wi.setCell ⟨lb, k, none⟩ u).heap[lb]? = some (.cells #[Sv x'.fr, .int .u64 (x'.ser : Int), .int .i64 x'.kind, .slice a x'.args.length c] 25 (0, 0))) : LS t w p v rb lb (wi.setCell ⟨lb, k, none⟩ u) l bad x' a c := by
  have kk := (Kept.refl [lb] wi).setCell (p := ⟨lb, k, none⟩) (.inl (by simp)) u
  refine s.turn kk (fun y hy => by simp at hy; subst hy; exact ⟨s.hl, s.hlr⟩) hl ?_ (by rw [ha]; exact s.fr)
  rw [ha]
  exact s.own.kept kk (fun g hg hm => by have := s.fr g hg; simp at hm; omega)
theorem LS.set0 (s : LS t w p v rb lb wi l bad x a c) (fr : List UInt8) : LS t w p v rb lb (wi.setCell ⟨lb, 0, none⟩ (Sv fr)) l bad ⟨fr, x.ser, x.kind, x.args⟩ a c := s.set _ 0 rfl (set4_0 s.lbox)
theorem LS.set1 (s : LS t w p v rb lb wi l bad x a c) (n : Nat) : LS t w p v rb lb (wi.setCell ⟨lb, 1, none⟩ (.int .u64 (n : Int))) l bad ⟨x.fr, n, x.kind, x.args⟩ a c := s.set _ 1 rfl (set4_1 s.lbox)
theorem LS.set2 (s : LS t w p v rb lb wi l bad x a c) (z : Int) : LS t w p v rb lb (wi.setCell ⟨lb, 2, none⟩ (.int .i64 z)) l bad ⟨x.fr, x.ser, z, x.args⟩ a c := s.set _ 2 rfl (set4_2 s.lbox)
/-- 'l.Args = append(l.Args, z)': the run of the append, and what the store leaves. -/
theorem LS.app (s : LS t w p v rb lb wi l bad x a c) (z : Int) (hn : x.args.length ≤ 100000) : ∃ a' c' w2, (Builtin.append_ #[23, 23] 23 #[.slice a x.args.length c, .slice (some ⟨wi.heap.size, 0, none⟩) 1 1]).run Tryd.prog (wi.alloc (.cells #[.int .i64 z] 2)) = .ok (.slice a' (x.args.length + 1) c') w2
    ∧ w2.cell? ⟨lb, 3, none⟩ = some (.slice a x.args.length c) ∧ w2.frozen? ⟨lb, 3, none⟩ = false ∧ LS t w p v rb lb (w2.setCell ⟨lb, 3, none⟩ (.slice a' (x.args.length + 1) c')) l bad ⟨x.fr, x.ser, x.kind, x.args ++ [z]⟩ a' c' := by
  obtain ⟨a', c', w2, hrun, ho, k, hN⟩ := append_rowR rt23 s.own [.int .i64 z] rfl (fun u hu => by simp at hu; subst hu; rfl) (by rw [CJ_length]; omega) 2 (0, 0) 23
  rw [CJ_length] at *
  have hlb := lt_of_block s.lbox
  have hrb := lt_of_block s.rbox
  have hb := k.keeps s.lbox (fun hm => by rw [Option.mem_toList] at hm; have := s.fr _ hm; omega)
  have hz := k.size
  have hf : ∀ g, (Value.slice a' (x.args.length + 1) c').ownBlock = some g → w.heap.size ≤ g ∧ g ≠ lb ∧ g ≠ rb := fun g hg => by
    rcases hN g hg with h | h
    · exact s.fr g h
    · have := s.kp.size; exact ⟨by omega, by omega, by omega⟩
  refine ⟨a', c', w2, hrun, (cells4 hb).2.2.2, (free4 hb).2.2.2, ?_⟩
  have e : x.args.length + 1 = (x.args ++ [z]).length := by simp
  have k2 := (Kept.refl [lb] w2).setCell (p := ⟨lb, 3, none⟩) (.inl (by simp)) (.slice a' (x.args.length + 1) c')
  have kk : Kept (lb :: (Value.slice a x.args.length c).ownBlock.toList) wi (w2.setCell ⟨lb, 3, none⟩ (.slice a' (x.args.length + 1) c')) := (k.mono (fun y hy => .inl (by simp [hy]))).trans k2 (fun y hy => .inl (by simp at hy; simp [hy]))
  have ho2 : OwnsR 2 1 (w2.setCell ⟨lb, 3, none⟩ (.slice a' (x.args.length + 1) c')) (.slice a' (x.args.length + 1) c') (CJ x.args ++ [[.int .i64 z]]) := OwnsR.kept ho k2 (fun g hg hm => by have := hf g hg; simp at hm; omega)
  refine s.turn kk (fun y hy => ?_) ?_ ?_ ?_
  · simp at hy
    rcases hy with rfl | hy
    · exact ⟨s.hl, s.hlr⟩
    · have := s.fr y hy; exact ⟨this.1, this.2.2⟩
  · have := set4_3 (x := .slice a' (x.args.length + 1) c') hb
    simpa using this
  · have : CJ (x.args ++ [z]) = CJ x.args ++ [[.int .i64 z]] := by simp [CJ]
    unfold OwnsJ
    rw [this, ← e]
    exact ho2
  · rw [← e]
    exact hf
theorem LS.rest (s : LS t w p v rb lb wi l' bad' x a c) (k : Kept [rb] wi wj) : Rest t w p v l' bad' wj ∧ OwnsJ wj (.slice a x.args.length c) x.args ∧ Fresh w (.slice a x.args.length c) := by
  obtain ⟨vi, hR, hV⟩ := s.rd
  have hp := s.hp
  have hr := s.hr
  refine ⟨⟨vi, hR.kept k (by simp; omega) (fun g hg hm => ?_), s.kp.trans k (fun y hy => by simp at hy; subst hy; exact .inr hr), hV⟩, s.own.kept k (fun g hg hm => ?_), fun g hg => (s.fr g hg).1⟩
  · have := s.hv g (hV g hg)
    simp at hm
    omega
  · have := (s.fr g hg).2.2
    simp at hm
    exact this hm
/-- The answer is the letter. -/
theorem LS.done (s : LS t w p v rb lb wi l' bad' x a c) (k : Kept [rb] wi wj) (h : rlet l bad = (some x, l', bad')) : LetAt t w p v l bad (.returned (.tuple #[Lv x a c, .bool true])) wj := by
  obtain ⟨h1, h2, h3⟩ := s.rest k
  unfold LetAt
  rw [h]
  exact ⟨x, a, c, rfl, fun y hy => by simpa using hy, h2, h3, h1⟩
/-- The answer is no letter. -/
theorem LS.fail (s : LS t w p v rb lb wi l' bad' x a c) (k : Kept [rb] wi wj) (h : rlet l bad = (none, l', bad')) : LetAt t w p v l bad (.returned (.tuple #[Lv ⟨[], 0, 0, []⟩ none 0, .bool false])) wj := by
  obtain ⟨h1, h2, h3⟩ := s.rest k
  unfold LetAt
  rw [h]
  exact ⟨_, none, 0, rfl, fun y hy => by simp at hy, OwnsJ.nil wj, fun g hg => by simp [Value.ownBlock] at hg, h1⟩
/-- The answer is what was read, and whether it is a letter. -/
theorem LS.told (s : LS t w p v rb lb wi l' bad' x a c) (k : Kept [rb] wi wj) {o : Option Lt} {b : Bool} (h : rlet l bad = (o, l', bad')) (hb : o.isSome = b) (ho : ∀ y, o = some y → x = y) : LetAt t w p v l bad (.returned (.tuple #[Lv x a c, .bool b])) wj := by
  obtain ⟨h1, h2, h3⟩ := s.rest k
  unfold LetAt
  rw [h]
  exact ⟨x, a, c, by rw [← hb], ho, h2, h3, h1⟩
end
end Go.Proofs.YtngnenbidpojeaaDoor
