import Derived.OpenShut
import Derived.Deep.QuietTactic
import Derived.BigQuiet
import Derived.Test.YtngnenbidpojeaaGreatDoorV03
import Derived.Test.YtngnenbidpojeaaGreatDoorV05
/-
  lay: a letter's bytes behind those that a Writer has.
-/
namespace Go.Proofs.YtngnenbidpojeaaGreatDoor
set_option maxRecDepth 100000
open Go.RowKit
set_option linter.unusedVariables false
section
variable {w : World}
theorem Laid.next {w w1 w2 : World} {p : Nat} {v v1 : Value} {l1 l2 : List UInt8} (h : IsW 205 5 w1 p v1 l1 ∧ Kept (foot p v) w w1 ∧ New w v v1) (h2 : Laid 205 5 w1 p v1 l2 w2) : Laid 205 5 w p v l2 w2 := Laid.trans h.2.1 h.2.2 h2
theorem ReadsJ.kept3 {S : List Nat} {w w' : World} {v : Value} {l : List Int} (h : ReadsJ w v l) (k : Kept S w w') (hn : l ≠ [] → ∀ g, v.ownBlock = some g → g ∉ S) : ReadsJ w' v l := by
  by_cases hl : l = []
  · subst hl
    obtain ⟨a, cap, h1, h2, h3, h4, h5⟩ := h
    exact ⟨a, cap, h1, h2, h3, h4, fun h => absurd rfl h⟩
  · exact h.kept k (hn hl)
theorem ReadsJ.ltg {w : World} {v : Value} {l : List Int} (h : ReadsJ w v l) (hl : l ≠ []) {g : Nat} (hg : v.ownBlock = some g) : g < w.heap.size := by
  obtain ⟨g', h1, h2⟩ := h.lt hl
  rw [hg] at h1
  cases h1
  exact h2
theorem encJ_take (l : List Int) (j : Nat) (z : Int) (h : l[j]? = some z) : encJ (l.take (j + 1)) = encJ (l.take j) ++ enc (fold z) := by
  rw [List.take_add_one, h, encJ_append]
  simp [encJ]
set_option maxRecDepth 100000 in
set_option maxHeartbeats 1000000 in
theorem lay27 (p : Nat) (v : Value) (l : List UInt8) (x : Lt) (a : Option Addr) (c : Nat) (hW : IsW 205 5 w p v l) (hx : ReadsJ w (.slice a x.args.length c) x.args) (ha : x.args ≠ [] → ∀ g, (Value.slice a x.args.length c).ownBlock = some g → g ∉ foot p v) (hok : x.ok)
    (hb : l.length + x.fr.length + 9 * x.args.length + 45 ≤ 140737488355328) :
    Calls Tryz.prog 108 #[.pointer (some ⟨p, 0, none⟩), Lv x a c] w fun e w' => e = .returned (.tuple #[]) ∧ Laid 205 5 w p v (l ++ encL x) w' := by
  have e1 := enc_length x.fr.length
  have e2 := enc_length x.ser
  have e3 := enc_length (fold x.kind)
  have e4 := enc_length x.args.length
  have hs : Hid ((⟨x.fr.toArray⟩ : ByteArray).size = x.fr.length) := Hid.mk (by simp [ByteArray.size])
  obtain ⟨-, hac, hcc⟩ := hx.bound
  have HX := Hid.mk hx
  clear hx
  have hfl := fold_lt x.kind hok.kind.1 hok.kind.2
  have hplt := hW.lt
  have hser := hok.ser
  go_enter Tryz.func108, Tryz.ntmps108
  go_wp2_with fail
  obtain ⟨W0, e0, k0, hz0, hb0⟩ := box1 w (.cells #[Sv x.fr, .int .u64 (x.ser : Int), .int .i64 x.kind, .slice a x.args.length c] 81)
  rw [e0]
  clear e0
  have hW0 := hW.kept k0 (by simp) (by simp)
  have HB : Hid (∀ W, Kept (foot p v) W0 W → W.heap[w.heap.size]? = some (.cells #[Sv x.fr, .int .u64 (x.ser : Int), .int .i64 x.kind, .slice a x.args.length c] 81 (0, 0))) := fun W k => k.keeps hb0 (fun hm => by
    rcases mem_foot.1 hm with h | h
    · omega
    · have := hW.own.lt h; omega)
  have HA : Hid (∀ W, Kept (foot p v) W0 W → ReadsJ W (.slice a x.args.length c) x.args) := fun W k => HX.out.kept3 ((k0.mono (by simp)).trans k (fun x hx => .inl hx)) ha
  have HE : Hid (∀ W, Laid 205 5 W0 p v (l ++ encL x) W → Laid 205 5 w p v (l ++ encL x) W) := fun W h => Laid.trans (k0.mono (by simp)) (New.refl w v) h
  clear hb0 hz0 hplt k0 hW HX
  refine (wtext_any p v l ⟨x.fr.toArray⟩ W0 hW0 (by rw [hs.out]; omega)).mono ?_
  rintro e w1 ⟨rfl, v1, hW1, k1, n1⟩
  rw [hs.out] at hW1
  change IsW 205 5 w1 p v1 (l ++ enc x.fr.length ++ x.fr) at hW1
  obtain ⟨c0, c1, c2, c3⟩ := cells4 (HB.out _ k1)
  go_wp2_with fail
  refine (wnum_any p v1 _ x.ser w1 hW1 hser (by simp only [List.length_append]; omega)).mono ?_
  rintro e w2 ⟨rfl, L2⟩
  obtain ⟨v2, hW2, k2, n2⟩ := Laid.trans k1 n1 L2
  clear L2 hW1 k1 n1 c0 c1 c2 c3
  obtain ⟨c0, c1, c2, c3⟩ := cells4 (HB.out _ k2)
  go_wp2_with fail
  refine (wint_any p v2 _ x.kind w2 hW2 hok.kind.1 hok.kind.2 (by simp only [List.length_append]; omega)).mono ?_
  rintro e w3 ⟨rfl, L3⟩
  obtain ⟨v3, hW3, k3, n3⟩ := Laid.trans k2 n2 L3
  clear L3 hW2 k2 n2 c0 c1 c2 c3
  obtain ⟨c0, c1, c2, c3⟩ := cells4 (HB.out _ k3)
  go_wp2_with fail
  refine (wnum_any p v3 _ x.args.length w3 hW3 (by omega) (by simp only [List.length_append]; omega)).mono ?_
  rintro e w4 ⟨rfl, L4⟩
  have L4 := Laid.trans k3 n3 L4
  obtain ⟨v4, hW4, k4, n4⟩ := id L4
  clear hW3 k3 n3 c0 c1 c2 c3
  obtain ⟨c0, c1, c2, c3⟩ := cells4 (HB.out _ k4)
  go_wp2_with fail
  clear c0 c1 c2 c3 hW4 k4 n4
  go_loopw [27] (fun i wr => ∃ j : Nat, i = .int .i64 (j : Int) ∧ j ≤ x.args.length ∧ Laid 205 5 W0 p v (l ++ enc x.fr.length ++ x.fr ++ enc x.ser ++ enc (fold x.kind) ++ enc x.args.length ++ encJ (x.args.take j)) wr) (fun i _ => x.args.length - (intOf i).toNat)
  case atStart => exact ⟨0, rfl, by omega, by simpa [encJ] using L4⟩
  case round =>
    obtain ⟨j, rfl, hj, v5, hW5, k5, n5⟩ := hrel
    by_cases hlt : j < x.args.length
    · obtain ⟨z, hz⟩ : ∃ z, x.args[j]? = some z := ⟨_, List.getElem?_eq_getElem hlt⟩
      obtain ⟨b, o, rfl, hcell⟩ := (HA.out _ k5).at hz
      have hzk := hok.args z (List.mem_of_getElem? hz)
      have HZ := Hid.mk hz
      have hjI : (j : Int) < (x.args.length : Int) := by omega
      have hlj := encJ_length (x.args.take j)
      rw [List.length_take] at hlj
      clear hz
      go_wp2_with fail
      refine (wint_any p v5 _ z _ hW5 hzk.1 hzk.2 (by simp only [List.length_append]; omega)).mono ?_
      rintro e w6 ⟨rfl, L6⟩
      have L6 := Laid.trans k5 n5 L6
      go_wp2_with fail
      go_roundw
      case rel =>
        refine ⟨j + 1, by go_num, by omega, ?_⟩
        rw [encJ_take _ _ _ HZ.out, ← List.append_assoc]
        exact L6
      case measure => simp [intOf]; omega
    · obtain rfl : j = x.args.length := by omega
      go_wp2
      go_end0
      refine ⟨rfl, HE.out _ ?_⟩
      refine ⟨v5, ?_, k5, n5⟩
      rw [List.take_length] at hW5
      simpa only [encL, List.append_assoc] using hW5
end
end Go.Proofs.YtngnenbidpojeaaGreatDoor
/-
  CodecOne: the walk.
-/
namespace Go.Proofs.YtngnenbidpojeaaGreatDoor
set_option maxRecDepth 100000
open Go.RowKit
attribute [local go_sem ↓] Go.wp_at_zero Go.wp_at_succ
theorem Reads.drew {w : World} {v : Value} {l : List UInt8} (h : Reads w v l) : Reads w.drew v l := h
theorem IsR.drewN {t : TypeId} {w : World} {p : Nat} {v : Value} {l : List UInt8} {bad : Bool} (h : IsR t w p v l bad) (k : Nat) : IsR t (w.drewN k) p v l bad := ⟨h.box, h.reads, h.apart, h.none⟩
theorem IsR.drew {t : TypeId} {w : World} {p : Nat} {v : Value} {l : List UInt8} {bad : Bool} (h : IsR t w p v l bad) : IsR t w.drew p v l bad := ⟨h.box, h.reads, h.apart, h.none⟩
end Go.Proofs.YtngnenbidpojeaaGreatDoor
/-
  Encode, and the document's Lay and Encode.
-/
namespace Go.Proofs.YtngnenbidpojeaaGreatDoor
set_option maxRecDepth 100000
open Go.RowKit
set_option linter.unusedVariables false
section
variable {w : World}
/-- Bytes in new memory, and an error's number. -/
def TwoB (w : World) (B : List UInt8) (E : Int) (e : Ending) (w' : World) : Prop := ∃ v, e = .returned (.tuple #[v, .int .i64 E]) ∧ Owns 5 w' v B ∧ Kept [] w w' ∧ Fresh w v
def encE (x : Lt) : Int := if x.formed = true then 0 else 1
def encB (x : Lt) : List UInt8 := if x.formed = true then encL x else []
theorem fresh_nil (w : World) (c : Nat) : Fresh w (.slice none c 0) := fun g hg => by simp [Value.ownBlock] at hg
theorem newW (w : World) : Calls Tryz.prog 63 #[] w fun e w' => ∃ p, e = .returned (.pointer (some ⟨p, 0, none⟩)) ∧ IsW 205 5 w' p (.slice none 0 0) [] ∧ Kept [] w w' ∧ w.heap.size ≤ p :=
  (new_w w).mono fun e w' ⟨he, hw⟩ => ⟨_, he, by subst hw; exact new_isW w, by subst hw; exact (Kept.refl [] w).alloc _, Nat.le_refl _⟩
theorem foot_nil (p : Nat) : foot p (.slice none 0 0) = [p] := rfl
theorem new_nil {w : World} {v : Value} (h : New w (.slice none 0 0) v) : Fresh w v := fun g hg => by
  rcases h g hg with h1 | h1
  · simp [Value.ownBlock] at h1
  · exact h1
end
end Go.Proofs.YtngnenbidpojeaaGreatDoor
/-
  A letter that is being read: the Reader, the letter's own block, and the answer's.
-/
namespace Go.Proofs.YtngnenbidpojeaaGreatDoor
set_option maxRecDepth 100000
open Go.RowKit
set_option linter.unusedVariables false
/-- What read answers, and leaves. -/
def LetAt (t : TypeId) (w : World) (p : Nat) (v : Value) (l : List UInt8) (bad : Bool) (e : Ending) (w' : World) : Prop :=
  ∃ (x : Lt) (a : Option Addr) (c : Nat), e = .returned (.tuple #[Lv x a c, .bool (rlet l bad).1.isSome]) ∧ (∀ y, (rlet l bad).1 = some y → x = y) ∧ OwnsJ w' (.slice a x.args.length c) x.args ∧ Fresh w (.slice a x.args.length c) ∧ Rest t w p v (rlet l bad).2.1 (rlet l bad).2.2 w'
/-- While a letter is read: the Reader (at p) has the bytes l left, the letter x stands in block lb, the answer's block rb is as it was laid. -/
structure LS (t : TypeId) (w : World) (p : Nat) (v : Value) (rb lb : Nat) (wi : World) (l : List UInt8) (bad : Bool) (x : Lt) (a : Option Addr) (c : Nat) : Prop where
  rd : ∃ vi, IsR t wi p vi l bad ∧ Within v vi
  lbox : wi.heap[lb]? = some (.cells #[Sv x.fr, .int .u64 (x.ser : Int), .int .i64 x.kind, .slice a x.args.length c] 81 (0, 0))
  rbox : wi.heap[rb]? = some (.cells #[Sv [], .int .u64 0, .int .i64 0, .slice none 0 0] 81 (0, 0))
  own : OwnsJ wi (.slice a x.args.length c) x.args
  fr : ∀ g, (Value.slice a x.args.length c).ownBlock = some g → w.heap.size ≤ g ∧ g ≠ lb ∧ g ≠ rb
  kp : Kept [p] w wi
  hp : p < w.heap.size
  hv : ∀ g, v.ownBlock = some g → g < w.heap.size
  hl : w.heap.size ≤ lb
  hr : w.heap.size ≤ rb
  hlr : lb ≠ rb
section
variable {t : TypeId} {w : World} {p : Nat} {v : Value} {rb lb : Nat} {wi wj : World} {l l' : List UInt8} {bad bad' : Bool} {x : Lt} {a : Option Addr} {c : Nat}
theorem LS.next (s : LS t w p v rb lb wi l bad x a c) {vi : Value} (hV : Within v vi) (h : Rest t wi p vi l' bad' wj) : LS t w p v rb lb wj l' bad' x a c := by
  obtain ⟨vj, hR, k, hW⟩ := h
  have hp := s.hp
  have h1 := s.hl
  have h2 := s.hr
  refine ⟨⟨vj, hR, hV.trans hW⟩, k.keeps s.lbox (by simp; omega), k.keeps s.rbox (by simp; omega), s.own.kept k (fun g hg hm => ?_), s.fr, s.kp.trans k (fun y hy => .inl hy), s.hp, s.hv, s.hl, s.hr, s.hlr⟩
  have := s.fr g hg
  simp at hm
  omega
theorem LS.drew (s : LS t w p v rb lb wi l bad x a c) : LS t w p v rb lb wi.drew l bad x a c := by
  obtain ⟨vi, hR, hV⟩ := s.rd
  exact ⟨⟨vi, ⟨hR.box, hR.reads, hR.apart, hR.none⟩, hV⟩, s.lbox, s.rbox, OwnsJ.kept s.own (Kept.refl [] wi).drew (by simp), s.fr, s.kp.drew, s.hp, s.hv, s.hl, s.hr, s.hlr⟩
/-- A store into the letter's block, or a row of its own that grows. -/
theorem LS.turn {S : List Nat} {x' : Lt} {a' : Option Addr} {c' : Nat} (s : LS t w p v rb lb wi l bad x a c) (k : Kept S wi wj) (hS : ∀ y ∈ S, w.heap.size ≤ y ∧ y ≠ rb) (hl : wj.heap[lb]? = some (.cells #[Sv x'.fr, .int .u64 (x'.ser : Int), .int .i64 x'.kind, .slice a' x'.args.length c'] 81 (0, 0)))
    (ho : OwnsJ wj (.slice a' x'.args.length c') x'.args) (hf : ∀ g, (Value.slice a' x'.args.length c').ownBlock = some g → w.heap.size ≤ g ∧ g ≠ lb ∧ g ≠ rb) : LS t w p v rb lb wj l bad x' a' c' := by
  obtain ⟨vi, hR, hV⟩ := s.rd
  have hp := s.hp
  refine ⟨⟨vi, hR.kept k (fun hm => ?_) (fun g hg hm => ?_), hV⟩, hl, k.keeps s.rbox (fun hm => (hS _ hm).2 rfl), ho, hf, s.kp.trans k (fun y hy => .inr (hS y hy).1), s.hp, s.hv, s.hl, s.hr, s.hlr⟩
  · have := hS _ hm; omega
  · have := s.hv g (hV g hg)
    have := hS _ hm
    omega
theorem LS.kept0 (s : LS t w p v rb lb wi l bad x a c) (k : Kept [] wi wj) : LS t w p v rb lb wj l bad x a c := s.turn k (by simp) (k.keeps s.lbox (by simp)) (s.own.kept k (by simp)) s.fr
theorem LS.set (s : LS t w p v rb lb wi l bad x a c) {x' : Lt} (u : Value) (k : Nat) (ha : x'.args = x.args) (hl : (wi.setCell ⟨lb, k, none⟩ u).heap[lb]? = some (.cells #[Sv x'.fr, .int .u64 (x'.ser : Int), .int .i64 x'.kind, .slice a x'.args.length c] 81 (0, 0))) : LS t w p v rb lb (wi.setCell ⟨lb, k, none⟩ u) l bad x' a c := by
  have kk := (Kept.refl [lb] wi).setCell (p := ⟨lb, k, none⟩) (.inl (by simp)) u
  refine s.turn kk (fun y hy => by simp at hy; subst hy; exact ⟨s.hl, s.hlr⟩) hl ?_ (by rw [ha]; exact s.fr)
  rw [ha]
  exact s.own.kept kk (fun g hg hm => by have := s.fr g hg; simp at hm; omega)
theorem LS.set0 (s : LS t w p v rb lb wi l bad x a c) (fr : List UInt8) : LS t w p v rb lb (wi.setCell ⟨lb, 0, none⟩ (Sv fr)) l bad ⟨fr, x.ser, x.kind, x.args⟩ a c := s.set _ 0 rfl (set4_0 s.lbox)
theorem LS.set1 (s : LS t w p v rb lb wi l bad x a c) (n : Nat) : LS t w p v rb lb (wi.setCell ⟨lb, 1, none⟩ (.int .u64 (n : Int))) l bad ⟨x.fr, n, x.kind, x.args⟩ a c := s.set _ 1 rfl (set4_1 s.lbox)
theorem LS.set2 (s : LS t w p v rb lb wi l bad x a c) (z : Int) : LS t w p v rb lb (wi.setCell ⟨lb, 2, none⟩ (.int .i64 z)) l bad ⟨x.fr, x.ser, z, x.args⟩ a c := s.set _ 2 rfl (set4_2 s.lbox)
/-- 'l.Args = append(l.Args, z)': the run of the append, and what the store leaves. -/
theorem LS.app (s : LS t w p v rb lb wi l bad x a c) (z : Int) (hn : x.args.length ≤ 100000) : ∃ a' c' w2, (Builtin.append_ #[79, 79] 79 #[.slice a x.args.length c, .slice (some ⟨wi.heap.size, 0, none⟩) 1 1]).run Tryz.prog (wi.alloc (.cells #[.int .i64 z] 2)) = .ok (.slice a' (x.args.length + 1) c') w2
    ∧ w2.cell? ⟨lb, 3, none⟩ = some (.slice a x.args.length c) ∧ w2.frozen? ⟨lb, 3, none⟩ = false ∧ LS t w p v rb lb (w2.setCell ⟨lb, 3, none⟩ (.slice a' (x.args.length + 1) c')) l bad ⟨x.fr, x.ser, x.kind, x.args ++ [z]⟩ a' c' := by
  obtain ⟨a', c', w2, hrun, ho, k, hN⟩ := append_rowR rt23 s.own [.int .i64 z] rfl (fun u hu => by simp at hu; subst hu; rfl) (by rw [CJ_length]; omega) 2 (0, 0) 79
  rw [CJ_length] at *
  have hlb := lt_of_block s.lbox
  have hrb := lt_of_block s.rbox
  have hb := k.keeps s.lbox (fun hm => by rw [Option.mem_toList] at hm; have := s.fr _ hm; omega)
  have hz := k.size
  have hf : ∀ g, (Value.slice a' (x.args.length + 1) c').ownBlock = some g → w.heap.size ≤ g ∧ g ≠ lb ∧ g ≠ rb := fun g hg => by
    rcases hN g hg with h | h
    · exact s.fr g h
    · have := s.kp.size; exact ⟨by omega, by omega, by omega⟩
  refine ⟨a', c', w2, hrun, (cells4 hb).2.2.2, (free4 hb).2.2.2, ?_⟩
  have e : x.args.length + 1 = (x.args ++ [z]).length := by simp
  have k2 := (Kept.refl [lb] w2).setCell (p := ⟨lb, 3, none⟩) (.inl (by simp)) (.slice a' (x.args.length + 1) c')
  have kk : Kept (lb :: (Value.slice a x.args.length c).ownBlock.toList) wi (w2.setCell ⟨lb, 3, none⟩ (.slice a' (x.args.length + 1) c')) := (k.mono (fun y hy => .inl (by simp [hy]))).trans k2 (fun y hy => .inl (by simp at hy; simp [hy]))
  have ho2 : OwnsR 2 1 (w2.setCell ⟨lb, 3, none⟩ (.slice a' (x.args.length + 1) c')) (.slice a' (x.args.length + 1) c') (CJ x.args ++ [[.int .i64 z]]) := OwnsR.kept ho k2 (fun g hg hm => by have := hf g hg; simp at hm; omega)
  refine s.turn kk (fun y hy => ?_) ?_ ?_ ?_
  · simp at hy
    rcases hy with rfl | hy
    · exact ⟨s.hl, s.hlr⟩
    · have := s.fr y hy; exact ⟨this.1, this.2.2⟩
  · have := set4_3 (x := .slice a' (x.args.length + 1) c') hb
    simpa using this
  · have : CJ (x.args ++ [z]) = CJ x.args ++ [[.int .i64 z]] := by simp [CJ]
    unfold OwnsJ
    rw [this, ← e]
    exact ho2
  · rw [← e]
    exact hf
theorem LS.rest (s : LS t w p v rb lb wi l' bad' x a c) (k : Kept [rb] wi wj) : Rest t w p v l' bad' wj ∧ OwnsJ wj (.slice a x.args.length c) x.args ∧ Fresh w (.slice a x.args.length c) := by
  obtain ⟨vi, hR, hV⟩ := s.rd
  have hp := s.hp
  have hr := s.hr
  refine ⟨⟨vi, hR.kept k (by simp; omega) (fun g hg hm => ?_), s.kp.trans k (fun y hy => by simp at hy; subst hy; exact .inr hr), hV⟩, s.own.kept k (fun g hg hm => ?_), fun g hg => (s.fr g hg).1⟩
  · have := s.hv g (hV g hg)
    simp at hm
    omega
  · have := (s.fr g hg).2.2
    simp at hm
    exact this hm
/-- The answer is the letter. -/
theorem LS.done (s : LS t w p v rb lb wi l' bad' x a c) (k : Kept [rb] wi wj) (h : rlet l bad = (some x, l', bad')) : LetAt t w p v l bad (.returned (.tuple #[Lv x a c, .bool true])) wj := by
  obtain ⟨h1, h2, h3⟩ := s.rest k
  unfold LetAt
  rw [h]
  exact ⟨x, a, c, rfl, fun y hy => by simpa using hy, h2, h3, h1⟩
/-- The answer is no letter. -/
theorem LS.fail (s : LS t w p v rb lb wi l' bad' x a c) (k : Kept [rb] wi wj) (h : rlet l bad = (none, l', bad')) : LetAt t w p v l bad (.returned (.tuple #[Lv ⟨[], 0, 0, []⟩ none 0, .bool false])) wj := by
  obtain ⟨h1, h2, h3⟩ := s.rest k
  unfold LetAt
  rw [h]
  exact ⟨_, none, 0, rfl, fun y hy => by simp at hy, OwnsJ.nil wj, fun g hg => by simp [Value.ownBlock] at hg, h1⟩
/-- The answer is what was read, and whether it is a letter. -/
theorem LS.told (s : LS t w p v rb lb wi l' bad' x a c) (k : Kept [rb] wi wj) {o : Option Lt} {b : Bool} (h : rlet l bad = (o, l', bad')) (hb : o.isSome = b) (ho : ∀ y, o = some y → x = y) : LetAt t w p v l bad (.returned (.tuple #[Lv x a c, .bool b])) wj := by
  obtain ⟨h1, h2, h3⟩ := s.rest k
  unfold LetAt
  rw [h]
  exact ⟨x, a, c, by rw [← hb], ho, h2, h3, h1⟩
end
end Go.Proofs.YtngnenbidpojeaaGreatDoor
/-
  read: the letter that a Reader's bytes begin with.
-/
namespace Go.Proofs.YtngnenbidpojeaaGreatDoor
set_option maxRecDepth 100000
open Go.RowKit
set_option linter.unusedVariables false
section
variable {w : World}
set_option maxRecDepth 100000 in
set_option maxHeartbeats 1000000 in
theorem read34 (p : Nat) (v : Value) (l : List UInt8) (bad : Bool) (hR : IsR 212 w p v l bad) (hv : ∀ g, v.ownBlock = some g → g < w.heap.size) : Calls Tryz.prog 144 #[.pointer (some ⟨p, 0, none⟩)] w fun e w' => LetAt 212 w p v l bad e w' := by
  go_enter Tryz.func144, Tryz.ntmps144
  go_wp2_with fail
  obtain ⟨W0, e0, k0, hz0, hb0, hb1⟩ := box2 w (.cells #[.string ⟨#[]⟩, .int .u64 0, .int .i64 0, .slice none 0 0] 81) (.cells #[.string ⟨#[]⟩, .int .u64 0, .int .i64 0, .slice none 0 0] 81)
  rw [e0]
  clear e0
  have s0 : LS 212 w p v w.heap.size (w.heap.size + 1) W0 l bad ⟨[], 0, 0, []⟩ none 0 := ⟨⟨v, hR.kept k0 (by simp) (by simp), Within.refl v⟩, hb1, hb0, OwnsJ.nil W0, fun g hg => by simp [Value.ownBlock] at hg, k0.mono (by simp), hR.lt, hv, by omega, by omega, by omega⟩
  clear hb0 hb1 k0 hz0
  obtain ⟨vi, hRi, hVi⟩ := s0.rd
  refine (rtext_any p vi l bad W0 hRi).mono ?_
  rintro e w1 ⟨rfl, h1⟩
  have s1 := s0.next hVi h1
  clear h1 hRi hVi s0
  obtain ⟨c0, c1, c2, c3⟩ := cells4 s1.lbox
  obtain ⟨f0, f1, f2, f3⟩ := free4 s1.lbox
  have H1 := Hid.mk (s1.set0 (rtext l bad).1)
  clear s1
  go_wp2_with fail
  obtain ⟨vi, hRi, hVi⟩ := H1.out.rd
  refine (rnum_any p vi _ _ _ hRi).mono ?_
  rintro e w2 ⟨rfl, h2⟩
  have s2 := H1.out.next hVi h2
  clear h2 hRi hVi H1 c0 c1 c2 c3 f0 f1 f2 f3
  obtain ⟨c0, c1, c2, c3⟩ := cells4 s2.lbox
  obtain ⟨f0, f1, f2, f3⟩ := free4 s2.lbox
  have H2 := Hid.mk (s2.set1 (rnum (rtext l bad).2.1 (rtext l bad).2.2).1)
  clear s2
  go_wp2_with fail
  obtain ⟨vi, hRi, hVi⟩ := H2.out.rd
  refine (rint_any p vi _ _ _ hRi).mono ?_
  rintro e w3 ⟨rfl, h3⟩
  have s3 := H2.out.next hVi h3
  clear h3 hRi hVi H2 c0 c1 c2 c3 f0 f1 f2 f3
  obtain ⟨c0, c1, c2, c3⟩ := cells4 s3.lbox
  obtain ⟨f0, f1, f2, f3⟩ := free4 s3.lbox
  have H3 := Hid.mk (s3.set2 (unfold (rnum (rnum (rtext l bad).2.1 (rtext l bad).2.2).2.1 (rnum (rtext l bad).2.1 (rtext l bad).2.2).2.2).1))
  clear s3
  go_wp2_with fail
  obtain ⟨vi, hRi, hVi⟩ := H3.out.rd
  refine (rnum_any p vi _ _ _ hRi).mono ?_
  rintro e w4 ⟨rfl, h4⟩
  have s4 := H3.out.next hVi h4
  clear h4 hRi hVi H3 c0 c1 c2 c3 f0 f1 f2 f3
  change LS 212 w p v w.heap.size (w.heap.size + 1) w4 (rhead l bad).rest (rhead l bad).bad ⟨(rhead l bad).fr, (rhead l bad).ser, (rhead l bad).kind, []⟩ none 0 at s4
  have hN : (rnum (rnum (rnum (rtext l bad).2.1 (rtext l bad).2.2).2.1 (rnum (rtext l bad).2.1 (rtext l bad).2.2).2.2).2.1 (rnum (rnum (rtext l bad).2.1 (rtext l bad).2.2).2.1 (rnum (rtext l bad).2.1 (rtext l bad).2.2).2.2).2.2).1 = (rhead l bad).n := rfl
  rw [hN]
  clear hN
  generalize hh : rhead l bad = h at s4
  have HH := Hid.mk hh
  clear hh
  obtain ⟨c0, c1, c2, c3⟩ := cells4 s4.lbox
  obtain ⟨d0, d1, d2, d3⟩ := cells4 s4.rbox
  obtain ⟨g0, g1, g2, g3⟩ := free4 s4.rbox
  by_cases hn : 4 < h.n
  · have hnI : (4 : Int) < (h.n : Int) := by omega
    go_wp2_with fail
    obtain ⟨W5, e5, k5, hb5, -⟩ := put4 s4.rbox (.string ⟨#[]⟩) (.int .u64 0) (.int .i64 0) (.slice none 0 0)
    rw [e5]
    clear e5
    refine bodyPost_ret (results_cell_row2 (p := 2) (u := 3) (ty := 81) rfl _ _ w.heap.size 81 _ (0, 0) _ rfl hb5 Tryz.underlying81 rfl (by kernel_rfl) _ rfl) rfl ?_
    exact s4.fail k5 (by unfold rlet; rw [HH.out]; dsimp only; rw [if_pos hn])
  · have hnI : ((4 : Int) < (h.n : Int)) = False := eq_false (by omega)
    clear d0 d1 d2 d3 g0 g1 g2 g3 c0 c1 c2 c3
    go_wp2_with fail
    go_loopw [21] (fun i wr => ∃ (j : Nat) (a : Option Addr) (c : Nat), i = .int .u64 (j : Int) ∧ j ≤ h.n ∧ Hid (LS 212 w p v w.heap.size (w.heap.size + 1) wr (rints j h.rest h.bad).2.1 (rints j h.rest h.bad).2.2 ⟨h.fr, h.ser, h.kind, (rints j h.rest h.bad).1⟩ a c)) (fun i _ => h.n - (intOf i).toNat)
    case atStart => exact ⟨0, none, 0, rfl, by omega, Hid.mk s4⟩
    case round =>
      obtain ⟨j, a, c, rfl, hj, hs⟩ := hrel
      by_cases hlt : j < h.n
      · have hjI : (j : Int) < (h.n : Int) := by omega
        have hjl := rints_length j h.rest h.bad
        have sd := hs.out.drew
        obtain ⟨c0, c1, c2, c3⟩ := cells4 sd.lbox
        obtain ⟨vi, hRi, hVi⟩ := sd.rd
        have hC := rint_any p vi _ _ _ hRi
        have HS := Hid.mk sd
        have HV := Hid.mk hVi
        have HL := Hid.mk hjl
        clear c0 c1 c2 sd hRi hVi hs hjl
        generalize hra : rints j h.rest h.bad = r at hC HS HL c3
        have HR := Hid.mk hra
        clear hra
        go_wp2_with fail
        go_region_law (first | (refine step_append_run 79 (.tmp 24) (.tmp 27) (by rfl) (by rfl) _ _ (by rfl) (by rfl) hrun ?_) | (go_simp; go_at_call 140; refine Calls.mono hC ?_; rintro e w5 ⟨rfl, h5⟩; obtain ⟨a6, c6, w6, hrun, q3, qf, s6⟩ := (HS.out.next HV.out h5).app (unfold (rnum r.2.1 r.2.2).1) (by show r.1.length ≤ 100000; rw [HL.out]; omega); have S6 := Hid.mk s6; clear s6; have q5 := (cells4 (HS.out.next HV.out h5).lbox).2.2.2; have q6 := ((Kept.refl [] w5).alloc (.cells #[.int .i64 (unfold (rnum r.2.1 r.2.2).1)] 2)).cell_eq q5))
        all_goals
          clear hC q3 qf q5 q6 hrun c3
          go_wp2
          go_roundw
          case rel =>
            refine ⟨j + 1, a6, c6, by go_num, by omega, Hid.mk ?_⟩
            rw [rints_snoc, HR.out]
            exact S6.out
          case measure => simp [intOf]; omega
      · obtain rfl : j = h.n := by omega
        have HL : Hid (rlet l bad = if (rints h.n h.rest h.bad).2.2 = true ∨ 40 < h.fr.length then (none, (rints h.n h.rest h.bad).2.1, (rints h.n h.rest h.bad).2.2) else (some ⟨h.fr, h.ser, h.kind, (rints h.n h.rest h.bad).1⟩, (rints h.n h.rest h.bad).2.1, (rints h.n h.rest h.bad).2.2)) := by
          show _ = _
          unfold rlet
          rw [HH.out]
          dsimp only
          rw [if_neg hn]
        have hrl := rints_length h.n h.rest h.bad
        generalize rints h.n h.rest h.bad = r at hs HL hrl
        have hfm : (⟨h.fr, h.ser, h.kind, r.1⟩ : Lt).formed = decide (h.fr.length ≤ 40) := by
          unfold Lt.formed
          dsimp only
          rw [hrl]
          simp
          omega
        have HF := fun W => formed13 (w := W) ⟨h.fr, h.ser, h.kind, r.1⟩ a c
        rw [hfm] at HF
        have HF := Hid.mk HF
        clear hfm
        obtain ⟨vi, hRi, hVi⟩ := hs.out.rd
        have hB := bad_any p vi _ _ _ hRi
        have HV := Hid.mk hVi
        clear hRi hVi
        obtain ⟨c0, c1, c2, c3⟩ := cells4 hs.out.lbox
        obtain ⟨d0, d1, d2, d3⟩ := cells4 hs.out.rbox
        obtain ⟨g0, g1, g2, g3⟩ := free4 hs.out.rbox
        have HR := Hid.mk hrl
        clear hrl
        go_wp2_with fail
        refine Calls.mono hB ?_
        rintro e w5 ⟨rfl, rfl⟩
        cases hrb : r.2.2 with
        | true =>
          have HB := Hid.mk hrb
          go_wp2_with fail
          obtain ⟨W5, e5, k5, hb5, -⟩ := put4 hs.out.rbox (.string ⟨#[]⟩) (.int .u64 0) (.int .i64 0) (.slice none 0 0)
          rw [e5]
          clear e5
          refine bodyPost_ret (results_cell_row2 (p := 2) (u := 3) (ty := 81) rfl _ _ w.heap.size 81 _ (0, 0) _ rfl hb5 Tryz.underlying81 rfl (by kernel_rfl) _ rfl) rfl ?_
          exact hs.out.fail k5 (by rw [HL.out, if_pos (.inl HB.out)])
        | false =>
          have HB := Hid.mk hrb
          clear hrb
          go_wp2_with fail
          refine (HF.out _).mono ?_
          rintro e w6 ⟨rfl, k6⟩
          have s6 := hs.out.kept0 k6
          clear c0 c1 c2 c3 d0 d1 d2 d3 g0 g1 g2 g3
          obtain ⟨c0, c1, c2, c3⟩ := cells4 s6.lbox
          obtain ⟨d0, d1, d2, d3⟩ := cells4 s6.rbox
          obtain ⟨g0, g1, g2, g3⟩ := free4 s6.rbox
          have S6 := Hid.mk s6
          clear s6
          by_cases hf : h.fr.length ≤ 40
          · have hfd : decide (h.fr.length ≤ 40) = true := by simp [hf]
            rw [hfd]
            go_wp2_with fail
            obtain ⟨W5, e5, k5, hb5, -⟩ := put4 S6.out.rbox (Sv h.fr) (.int .u64 (h.ser : Int)) (.int .i64 h.kind) (.slice a r.1.length c)
            rw [e5]
            clear e5
            refine bodyPost_ret (results_cell_row2 (p := 2) (u := 3) (ty := 81) rfl _ _ w.heap.size 81 _ (0, 0) _ rfl hb5 Tryz.underlying81 rfl (by kernel_rfl) _ rfl) rfl ?_
            exact S6.out.done k5 (by rw [HL.out, if_neg (by rw [HB.out]; simp; omega)])
          · have hfd : decide (h.fr.length ≤ 40) = false := by simp [hf]
            rw [hfd]
            go_wp2_with fail
            obtain ⟨W5, e5, k5, hb5, -⟩ := put4 S6.out.rbox (.string ⟨#[]⟩) (.int .u64 0) (.int .i64 0) (.slice none 0 0)
            rw [e5]
            clear e5
            refine bodyPost_ret (results_cell_row2 (p := 2) (u := 3) (ty := 81) rfl _ _ w.heap.size 81 _ (0, 0) _ rfl hb5 Tryz.underlying81 rfl (by kernel_rfl) _ rfl) rfl ?_
            exact S6.out.fail k5 (by rw [HL.out, if_pos (.inr (by omega))])
end
end Go.Proofs.YtngnenbidpojeaaGreatDoor
/-
  The document's own Reader: Number, Int, Text, End, Of.
-/
namespace Go.Proofs.YtngnenbidpojeaaGreatDoor
set_option maxRecDepth 100000
open Go.RowKit
set_option linter.unusedVariables false
/-- The slice v lies in memory that is there. -/
def Inside (w : World) (v : Value) : Prop := ∀ g, v.ownBlock = some g → g < w.heap.size
set_option maxHeartbeats 400000 in
theorem newr_in (v : Value) (l : List UInt8) (w : World) (h : Reads w v l) (hl : l.length ≤ 140737488355328) :
    Calls Tryz.prog 70 #[v] w fun e w' => ∃ p v', e = .returned (.pointer (some ⟨p, 0, none⟩)) ∧ IsR 212 w' p v' l false ∧ Kept [] w w' ∧ Fresh w v' ∧ w.heap.size ≤ p ∧ Inside w' v' := by
  go_enter Tryz.func70, Tryz.ntmps70
  go_wp2_with (go_at_call 112; refine (clone_any v l _ h hl).mono ?_; rintro e w1 ⟨v1, rfl, hown, hk, hf⟩; obtain ⟨a1, c1, hv1⟩ := hown.form; rw [hv1])
  go_ret
  subst hv1
  have hne : (Value.slice a1 l.length c1).ownBlock ≠ some w1.heap.size := fun h => by have := hown.lt h; omega
  exact ⟨w1.heap.size, _, rfl, ⟨heap_alloc_new w1 _, hown.reads.kept ((Kept.refl [] w1).alloc _) (by simp), hne, by simp⟩, hk.alloc _, hf, hk.size, fun g hg => by have := hown.lt hg; simp; omega⟩
end Go.Proofs.YtngnenbidpojeaaGreatDoor
