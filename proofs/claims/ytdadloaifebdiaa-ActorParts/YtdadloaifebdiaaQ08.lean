import Derived.Test.YtdadloaifebdiaaQ02
import Derived.Test.YtdadloaifebdiaaQ07
/-
  Encode, and the document's Lay and Encode.
-/
namespace Go.Proofs.Ytdadloaifebdiaa
set_option maxRecDepth 100000
open Go.RowKit
set_option linter.unusedVariables false
section
variable {w : World}
/-- Bytes in new memory, and an error's number. -/
def TwoB (w : World) (B : List UInt8) (E : Int) (e : Ending) (w' : World) : Prop := ∃ v, e = .returned (.tuple #[v, .int .i64 E]) ∧ Owns 5 w' v B ∧ Kept [] w w' ∧ Fresh w v
def encE (x : Lt) : Int := if x.formed = true then 0 else 1
def encB (x : Lt) : List UInt8 := if x.formed = true then encL x else []
theorem fresh_nil (w : World) (c : Nat) : Fresh w (.slice none c 0) := fun g hg => by simp [Value.ownBlock] at hg
theorem newW (w : World) : Calls Try.prog 28 #[] w fun e w' => ∃ p, e = .returned (.pointer (some ⟨p, 0, none⟩)) ∧ IsW 122 5 w' p (.slice none 0 0) [] ∧ Kept [] w w' ∧ w.heap.size ≤ p :=
  (new_w w).mono fun e w' ⟨he, hw⟩ => ⟨_, he, by subst hw; exact new_isW w, by subst hw; exact (Kept.refl [] w).alloc _, Nat.le_refl _⟩
theorem foot_nil (p : Nat) : foot p (.slice none 0 0) = [p] := rfl
theorem new_nil {w : World} {v : Value} (h : New w (.slice none 0 0) v) : Fresh w v := fun g hg => by
  rcases h g hg with h1 | h1
  · simp [Value.ownBlock] at h1
  · exact h1
set_option maxRecDepth 100000 in
set_option maxHeartbeats 1000000 in
/-- The document's Lay. -/
theorem lay29 (v : Value) (l : List UInt8) (x : Lt) (a : Option Addr) (c : Nat) (hW : Owns 5 w v l) (hx : ReadsJ w (.slice a x.args.length c) x.args) (ha : x.args ≠ [] → ∀ g, (Value.slice a x.args.length c).ownBlock = some g → v.ownBlock ≠ some g) (hok : x.ok)
    (hb : l.length + x.fr.length + 9 * x.args.length + 45 ≤ 140737488355328) :
    Calls Try.prog 70 #[v, Lv x a c] w fun e w' => ∃ v', e = .returned v' ∧ Grew 5 w v (l ++ encL x) v' w' := by
  have e1 := enc_length x.fr.length
  have e2 := enc_length x.ser
  have e3 := enc_length (fold x.kind)
  have e4 := enc_length x.args.length
  have hs : Hid ((⟨x.fr.toArray⟩ : ByteArray).size = x.fr.length) := Hid.mk (by simp [ByteArray.size])
  obtain ⟨-, hac, hcc⟩ := hx.bound
  have HX := Hid.mk hx
  clear hx
  have hser := hok.ser
  go_enter Try.func70, Try.ntmps70
  go_wp2_with fail
  obtain ⟨W0, e0, k0, hz0, hb0⟩ := box1 w (.cells #[Sv x.fr, .int .u64 (x.ser : Int), .int .i64 x.kind, .slice a x.args.length c] 50)
  rw [e0]
  clear e0
  have hW0 := hW.kept k0 (by simp)
  have HB : Hid (∀ W, Kept v.ownBlock.toList W0 W → W.heap[w.heap.size]? = some (.cells #[Sv x.fr, .int .u64 (x.ser : Int), .int .i64 x.kind, .slice a x.args.length c] 50 (0, 0))) := fun W k => k.keeps hb0 (fun hm => by
    rw [Option.mem_toList] at hm
    have := hW.lt hm; omega)
  have HA : Hid (∀ W, Kept v.ownBlock.toList W0 W → ReadsJ W (.slice a x.args.length c) x.args) := fun W k => HX.out.kept3 ((k0.mono (by simp)).trans k (fun x hx => .inl hx)) (fun hne g hg hm => by
    rw [Option.mem_toList] at hm
    exact ha hne g hg hm)
  have HE : Hid (∀ v' W, Grew 5 W0 v (l ++ encL x) v' W → Grew 5 w v (l ++ encL x) v' W) := fun v' W h => Grew.trans (k0.mono (by simp)) (New.refl w v) h
  clear hb0 hz0 k0 hW HX
  refine (reftext_any v l ⟨x.fr.toArray⟩ W0 hW0 (by rw [hs.out]; omega)).mono ?_
  rintro e w1 ⟨v1, rfl, hW1, k1, n1⟩
  rw [hs.out] at hW1
  change Owns 5 w1 v1 (l ++ enc x.fr.length ++ x.fr) at hW1
  obtain ⟨c0, c1, c2, c3⟩ := cells4 (HB.out _ k1)
  go_wp2_with fail
  refine (refnum_any v1 _ x.ser w1 hW1 hser (by simp only [List.length_append]; omega)).mono ?_
  rintro e w2 ⟨v2, rfl, L2⟩
  obtain ⟨hW2, k2, n2⟩ := Grew.trans k1 n1 L2
  clear L2 hW1 k1 n1 c0 c1 c2 c3
  obtain ⟨c0, c1, c2, c3⟩ := cells4 (HB.out _ k2)
  go_wp2_with fail
  refine (refint_any v2 _ x.kind w2 hW2 hok.kind.1 hok.kind.2 (by simp only [List.length_append]; omega)).mono ?_
  rintro e w3 ⟨v3, rfl, L3⟩
  obtain ⟨hW3, k3, n3⟩ := Grew.trans k2 n2 L3
  clear L3 hW2 k2 n2 c0 c1 c2 c3
  obtain ⟨c0, c1, c2, c3⟩ := cells4 (HB.out _ k3)
  go_wp2_with fail
  refine (refnum_any v3 _ x.args.length w3 hW3 (by omega) (by simp only [List.length_append]; omega)).mono ?_
  rintro e w4 ⟨v4, rfl, L4⟩
  have L4 := Grew.trans k3 n3 L4
  obtain ⟨hW4, k4, n4⟩ := id L4
  clear hW3 k3 n3 c0 c1 c2 c3
  obtain ⟨c0, c1, c2, c3⟩ := cells4 (HB.out _ k4)
  go_wp2_with fail
  clear c0 c1 c2 c3 hW4 k4 n4
  go_loopw [0, 27] (fun q i wr => ∃ j : Nat, i = .int .i64 (j : Int) ∧ j ≤ x.args.length ∧ Grew 5 W0 v (l ++ enc x.fr.length ++ x.fr ++ enc x.ser ++ enc (fold x.kind) ++ enc x.args.length ++ encJ (x.args.take j)) q wr) (fun _ i _ => x.args.length - (intOf i).toNat)
  case atStart => exact ⟨0, rfl, by omega, by simpa [encJ] using L4⟩
  case round =>
    obtain ⟨j, rfl, hj, hW5, k5, n5⟩ := hrel
    by_cases hlt : j < x.args.length
    · obtain ⟨z, hz⟩ : ∃ z, x.args[j]? = some z := ⟨_, List.getElem?_eq_getElem hlt⟩
      obtain ⟨b, o, rfl, hcell⟩ := (HA.out _ k5).at hz
      obtain ⟨c0, c1, c2, c3⟩ := cells4 (HB.out _ k5)
      have hzk := hok.args z (List.mem_of_getElem? hz)
      have HZ := Hid.mk hz
      have hjI : (j : Int) < (x.args.length : Int) := by omega
      have hlj := encJ_length (x.args.take j)
      rw [List.length_take] at hlj
      clear hz
      go_wp2_with fail
      refine (refint_any _ _ z _ hW5 hzk.1 hzk.2 (by simp only [List.length_append]; omega)).mono ?_
      rintro e w6 ⟨v6, rfl, L6⟩
      have L6 := Grew.trans k5 n5 L6
      go_wp2_with fail
      go_roundw
      case rel =>
        refine ⟨j + 1, by go_num, by omega, ?_⟩
        rw [encJ_take _ _ _ HZ.out, ← List.append_assoc]
        exact L6
      case measure => simp [intOf]; omega
    · obtain rfl : j = x.args.length := by omega
      go_wp2
      go_ret
      rw [List.take_length] at hW5
      have e9 : l ++ enc x.fr.length ++ x.fr ++ enc x.ser ++ enc (fold x.kind) ++ enc x.args.length ++ encJ x.args = l ++ encL x := by simp only [encL, List.append_assoc]
      rw [e9] at hW5
      exact ⟨_, rfl, HE.out _ _ ⟨hW5, k5, n5⟩⟩
end
end Go.Proofs.Ytdadloaifebdiaa
/-
  few, and awake.
-/
namespace Go.Proofs.Ytdadloaifebdiaa
set_option maxRecDepth 100000
open Go.RowKit
set_option linter.unusedVariables false
section
variable {w : World}
/-- Letters of a size that is looked at. -/
def FewQ (l : List Lq) : Prop := l.length ≤ 301 ∧ ∀ q ∈ l, q.x.fr.length ≤ 1000 ∧ q.x.args.length ≤ 1000
/-- What few answers. -/
def FewAt (l : List Lq) (w : World) (e : Ending) (w' : World) : Prop := ∃ b : Bool, e = .returned (.bool b) ∧ (b = true → FewQ l) ∧ Kept [] w w'
theorem few_yes {l : List Lq} {w w' : World} (h : FewQ l) (k : Kept [] w w') : FewAt l w (.returned (.bool true)) w' := ⟨true, rfl, fun _ => h, k⟩
theorem few_no {l : List Lq} {w w' : World} (k : Kept [] w w') : FewAt l w (.returned (.bool false)) w' := ⟨false, rfl, (fun h => Bool.noConfusion h), k⟩
/-- A new block of rows reads as them. -/
theorem reads_rows {k : Nat} (w : World) (rs : List (List Value)) (hw : Wide k rs) (hl : rs.length ≤ maxLen) (t : TypeId) (fr : Nat × Nat) : ReadsR k (w.alloc (.cells rs.flatten.toArray t fr)) (.slice (some ⟨w.heap.size, 0, none⟩) rs.length rs.length) rs := by
  have hh : (w.alloc (.cells rs.flatten.toArray t fr)).heap[w.heap.size]? = some (.cells rs.flatten.toArray t fr) := heap_alloc_new w _
  refine ⟨_, rs.length, rfl, Nat.le_refl _, hl, by simp, fun _ => ⟨w.heap.size, 0, rfl, fun j u hu i x hx => ?_⟩⟩
  have := hw.at j u hu i x hx
  unfold World.cell?
  rw [hh]
  simpa using this
theorem rowQ_new (w : World) (l : List Lq) (hl : l.length ≤ 1000) (t : TypeId) (fr : Nat × Nat) : RowQ (w.alloc (.cells (CQ l).flatten.toArray t fr)) (.slice (some ⟨w.heap.size, 0, none⟩) l.length l.length) l := by
  have := reads_rows w (CQ l) (CQ_wide l) (by rw [CQ_length]; unfold maxLen; omega) t fr
  rwa [CQ_length] at this
end
end Go.Proofs.Ytdadloaifebdiaa
/-
  A letter that is being read: the Reader, the letter's own block, and the answer's.
-/
namespace Go.Proofs.Ytdadloaifebdiaa
set_option maxRecDepth 100000
open Go.RowKit
set_option linter.unusedVariables false
/-- What read answers, and leaves. -/
def LetAt (t : TypeId) (w : World) (p : Nat) (v : Value) (l : List UInt8) (bad : Bool) (e : Ending) (w' : World) : Prop :=
  ∃ (x : Lt) (a : Option Addr) (c : Nat), e = .returned (.tuple #[Lv x a c, .bool (rlet l bad).1.isSome]) ∧ (∀ y, (rlet l bad).1 = some y → x = y) ∧ OwnsJ w' (.slice a x.args.length c) x.args ∧ Fresh w (.slice a x.args.length c) ∧ Rest t w p v (rlet l bad).2.1 (rlet l bad).2.2 w'
/-- While a letter is read: the Reader (at p) has the bytes l left, the letter x stands in block lb, the answer's block rb is as it was laid. -/
structure LS (t : TypeId) (w : World) (p : Nat) (v : Value) (rb lb : Nat) (wi : World) (l : List UInt8) (bad : Bool) (x : Lt) (a : Option Addr) (c : Nat) : Prop where
  rd : ∃ vi, IsR t wi p vi l bad ∧ Within v vi
  lbox : wi.heap[lb]? = some (.cells #[Sv x.fr, .int .u64 (x.ser : Int), .int .i64 x.kind, .slice a x.args.length c] 50 (0, 0))
  rbox : wi.heap[rb]? = some (.cells #[Sv [], .int .u64 0, .int .i64 0, .slice none 0 0] 50 (0, 0))
  own : OwnsJ wi (.slice a x.args.length c) x.args
  fr : ∀ g, (Value.slice a x.args.length c).ownBlock = some g → w.heap.size ≤ g ∧ g ≠ lb ∧ g ≠ rb
  kp : Kept [p] w wi
  hp : p < w.heap.size
  hv : ∀ g, v.ownBlock = some g → g < w.heap.size
  hl : w.heap.size ≤ lb
  hr : w.heap.size ≤ rb
  hlr : lb ≠ rb
section
variable {t : TypeId} {w : World} {p : Nat} {v : Value} {rb lb : Nat} {wi wj : World} {l l' : List UInt8} {bad bad' : Bool} {x : Lt} {a : Option Addr} {c : Nat}
theorem LS.next (s : LS t w p v rb lb wi l bad x a c) {vi : Value} (hV : Within v vi) (h : Rest t wi p vi l' bad' wj) : LS t w p v rb lb wj l' bad' x a c := by
  obtain ⟨vj, hR, k, hW⟩ := h
  have hp := s.hp
  have h1 := s.hl
  have h2 := s.hr
  refine ⟨⟨vj, hR, hV.trans hW⟩, k.keeps s.lbox (by simp; omega), k.keeps s.rbox (by simp; omega), s.own.kept k (fun g hg hm => ?_), s.fr, s.kp.trans k (fun y hy => .inl hy), s.hp, s.hv, s.hl, s.hr, s.hlr⟩
  have := s.fr g hg
  simp at hm
  omega
theorem LS.drew (s : LS t w p v rb lb wi l bad x a c) : LS t w p v rb lb wi.drew l bad x a c := by
  obtain ⟨vi, hR, hV⟩ := s.rd
  exact ⟨⟨vi, ⟨hR.box, hR.reads, hR.apart, hR.none⟩, hV⟩, s.lbox, s.rbox, OwnsJ.kept s.own (Kept.refl [] wi).drew (by simp), s.fr, s.kp.drew, s.hp, s.hv, s.hl, s.hr, s.hlr⟩
/-- A store into the letter's block, or a row of its own that grows. -/
theorem LS.turn {S : List Nat} {x' : Lt} {a' : Option Addr} {c' : Nat} (s : LS t w p v rb lb wi l bad x a c) (k : Kept S wi wj) (hS : ∀ y ∈ S, w.heap.size ≤ y ∧ y ≠ rb) (hl : wj.heap[lb]? = some (.cells #[Sv x'.fr, .int .u64 (x'.ser : Int), .int .i64 x'.kind, .slice a' x'.args.length c'] 50 (0, 0)))
    (ho : OwnsJ wj (.slice a' x'.args.length c') x'.args) (hf : ∀ g, (Value.slice a' x'.args.length c').ownBlock = some g → w.heap.size ≤ g ∧ g ≠ lb ∧ g ≠ rb) : LS t w p v rb lb wj l bad x' a' c' := by
  obtain ⟨vi, hR, hV⟩ := s.rd
  have hp := s.hp
  refine ⟨⟨vi, hR.kept k (fun hm => ?_) (fun g hg hm => ?_), hV⟩, hl, k.keeps s.rbox (fun hm => (hS _ hm).2 rfl), ho, hf, s.kp.trans k (fun y hy => .inr (hS y hy).1), s.hp, s.hv, s.hl, s.hr, s.hlr⟩
  · have := hS _ hm; omega
  · have := s.hv g (hV g hg)
    have := hS _ hm
    omega
theorem LS.kept0 (s : LS t w p v rb lb wi l bad x a c) (k : Kept [] wi wj) : LS t w p v rb lb wj l bad x a c := s.turn k (by simp) (k.keeps s.lbox (by simp)) (s.own.kept k (by simp)) s.fr
theorem LS.set (s : LS t w p v rb lb wi l bad x a c) {x' : Lt} (u : Value) (k : Nat) (ha : x'.args = x.args) (hl : (wi.setCell ⟨lb, k, none⟩ u).heap[lb]? = some (.cells #[Sv x'.fr, .int .u64 (x'.ser : Int), .int .i64 x'.kind, .slice a x'.args.length c] 50 (0, 0))) : LS t w p v rb lb (wi.setCell ⟨lb, k, none⟩ u) l bad x' a c := by
  have kk := (Kept.refl [lb] wi).setCell (p := ⟨lb, k, none⟩) (.inl (by simp)) u
  refine s.turn kk (fun y hy => by simp at hy; subst hy; exact ⟨s.hl, s.hlr⟩) hl ?_ (by rw [ha]; exact s.fr)
  rw [ha]
  exact s.own.kept kk (fun g hg hm => by have := s.fr g hg; simp at hm; omega)
theorem LS.set0 (s : LS t w p v rb lb wi l bad x a c) (fr : List UInt8) : LS t w p v rb lb (wi.setCell ⟨lb, 0, none⟩ (Sv fr)) l bad ⟨fr, x.ser, x.kind, x.args⟩ a c := s.set _ 0 rfl (set4_0 s.lbox)
theorem LS.set1 (s : LS t w p v rb lb wi l bad x a c) (n : Nat) : LS t w p v rb lb (wi.setCell ⟨lb, 1, none⟩ (.int .u64 (n : Int))) l bad ⟨x.fr, n, x.kind, x.args⟩ a c := s.set _ 1 rfl (set4_1 s.lbox)
theorem LS.set2 (s : LS t w p v rb lb wi l bad x a c) (z : Int) : LS t w p v rb lb (wi.setCell ⟨lb, 2, none⟩ (.int .i64 z)) l bad ⟨x.fr, x.ser, z, x.args⟩ a c := s.set _ 2 rfl (set4_2 s.lbox)
/-- 'l.Args = append(l.Args, z)': the run of the append, and what the store leaves. -/
theorem LS.app (s : LS t w p v rb lb wi l bad x a c) (z : Int) (hn : x.args.length ≤ 100000) : ∃ a' c' w2, (Builtin.append_ #[48, 48] 48 #[.slice a x.args.length c, .slice (some ⟨wi.heap.size, 0, none⟩) 1 1]).run Try.prog (wi.alloc (.cells #[.int .i64 z] 2)) = .ok (.slice a' (x.args.length + 1) c') w2
    ∧ w2.cell? ⟨lb, 3, none⟩ = some (.slice a x.args.length c) ∧ w2.frozen? ⟨lb, 3, none⟩ = false ∧ LS t w p v rb lb (w2.setCell ⟨lb, 3, none⟩ (.slice a' (x.args.length + 1) c')) l bad ⟨x.fr, x.ser, x.kind, x.args ++ [z]⟩ a' c' := by
  obtain ⟨a', c', w2, hrun, ho, k, hN⟩ := append_rowR rt23 s.own [.int .i64 z] rfl (fun u hu => by simp at hu; subst hu; rfl) (by rw [CJ_length]; omega) 2 (0, 0) 48
  rw [CJ_length] at *
  have hlb := lt_of_block s.lbox
  have hrb := lt_of_block s.rbox
  have hb := k.keeps s.lbox (fun hm => by rw [Option.mem_toList] at hm; have := s.fr _ hm; omega)
  have hz := k.size
  have hf : ∀ g, (Value.slice a' (x.args.length + 1) c').ownBlock = some g → w.heap.size ≤ g ∧ g ≠ lb ∧ g ≠ rb := fun g hg => by
    rcases hN g hg with h | h
    · exact s.fr g h
    · have := s.kp.size; exact ⟨by omega, by omega, by omega⟩
  refine ⟨a', c', w2, hrun, (cells4 hb).2.2.2, (free4 hb).2.2.2, ?_⟩
  have e : x.args.length + 1 = (x.args ++ [z]).length := by simp
  have k2 := (Kept.refl [lb] w2).setCell (p := ⟨lb, 3, none⟩) (.inl (by simp)) (.slice a' (x.args.length + 1) c')
  have kk : Kept (lb :: (Value.slice a x.args.length c).ownBlock.toList) wi (w2.setCell ⟨lb, 3, none⟩ (.slice a' (x.args.length + 1) c')) := (k.mono (fun y hy => .inl (by simp [hy]))).trans k2 (fun y hy => .inl (by simp at hy; simp [hy]))
  have ho2 : OwnsR 2 1 (w2.setCell ⟨lb, 3, none⟩ (.slice a' (x.args.length + 1) c')) (.slice a' (x.args.length + 1) c') (CJ x.args ++ [[.int .i64 z]]) := OwnsR.kept ho k2 (fun g hg hm => by have := hf g hg; simp at hm; omega)
  refine s.turn kk (fun y hy => ?_) ?_ ?_ ?_
  · simp at hy
    rcases hy with rfl | hy
    · exact ⟨s.hl, s.hlr⟩
    · have := s.fr y hy; exact ⟨this.1, this.2.2⟩
  · have := set4_3 (x := .slice a' (x.args.length + 1) c') hb
    simpa using this
  · have : CJ (x.args ++ [z]) = CJ x.args ++ [[.int .i64 z]] := by simp [CJ]
    unfold OwnsJ
    rw [this, ← e]
    exact ho2
  · rw [← e]
    exact hf
theorem LS.rest (s : LS t w p v rb lb wi l' bad' x a c) (k : Kept [rb] wi wj) : Rest t w p v l' bad' wj ∧ OwnsJ wj (.slice a x.args.length c) x.args ∧ Fresh w (.slice a x.args.length c) := by
  obtain ⟨vi, hR, hV⟩ := s.rd
  have hp := s.hp
  have hr := s.hr
  refine ⟨⟨vi, hR.kept k (by simp; omega) (fun g hg hm => ?_), s.kp.trans k (fun y hy => by simp at hy; subst hy; exact .inr hr), hV⟩, s.own.kept k (fun g hg hm => ?_), fun g hg => (s.fr g hg).1⟩
  · have := s.hv g (hV g hg)
    simp at hm
    omega
  · have := (s.fr g hg).2.2
    simp at hm
    exact this hm
/-- The answer is the letter. -/
theorem LS.done (s : LS t w p v rb lb wi l' bad' x a c) (k : Kept [rb] wi wj) (h : rlet l bad = (some x, l', bad')) : LetAt t w p v l bad (.returned (.tuple #[Lv x a c, .bool true])) wj := by
  obtain ⟨h1, h2, h3⟩ := s.rest k
  unfold LetAt
  rw [h]
  exact ⟨x, a, c, rfl, fun y hy => by simpa using hy, h2, h3, h1⟩
/-- The answer is no letter. -/
theorem LS.fail (s : LS t w p v rb lb wi l' bad' x a c) (k : Kept [rb] wi wj) (h : rlet l bad = (none, l', bad')) : LetAt t w p v l bad (.returned (.tuple #[Lv ⟨[], 0, 0, []⟩ none 0, .bool false])) wj := by
  obtain ⟨h1, h2, h3⟩ := s.rest k
  unfold LetAt
  rw [h]
  exact ⟨_, none, 0, rfl, fun y hy => by simp at hy, OwnsJ.nil wj, fun g hg => by simp [Value.ownBlock] at hg, h1⟩
/-- The answer is what was read, and whether it is a letter. -/
theorem LS.told (s : LS t w p v rb lb wi l' bad' x a c) (k : Kept [rb] wi wj) {o : Option Lt} {b : Bool} (h : rlet l bad = (o, l', bad')) (hb : o.isSome = b) (ho : ∀ y, o = some y → x = y) : LetAt t w p v l bad (.returned (.tuple #[Lv x a c, .bool b])) wj := by
  obtain ⟨h1, h2, h3⟩ := s.rest k
  unfold LetAt
  rw [h]
  exact ⟨x, a, c, by rw [← hb], ho, h2, h3, h1⟩
end
end Go.Proofs.Ytdadloaifebdiaa
/-
  read: the letter that a Reader's bytes begin with.
-/
namespace Go.Proofs.Ytdadloaifebdiaa
set_option maxRecDepth 100000
open Go.RowKit
set_option linter.unusedVariables false
section
variable {w : World}
end
end Go.Proofs.Ytdadloaifebdiaa
/-
  The document's own Reader, as the statements have it.
-/
namespace Go.Proofs.Ytdadloaifebdiaa
set_option maxRecDepth 100000
open Go.RowKit
set_option linter.unusedVariables false
theorem rnum_bad (l : List UInt8) (bad : Bool) (h : (dec l).2 = 0) : rnum l bad = (0, [], true) := by unfold rnum; rw [if_pos h]
theorem rnum_on (l : List UInt8) (bad : Bool) (n k : Nat) (h : dec l = (n, k)) (hk : k ≠ 0) : rnum l bad = (n, l.drop k, bad) := by unfold rnum; rw [h, if_neg hk]
end Go.Proofs.Ytdadloaifebdiaa
/-
  The document's own Reader: Number, Int, Text, End, Of.
-/
namespace Go.Proofs.Ytdadloaifebdiaa
set_option maxRecDepth 100000
open Go.RowKit
set_option linter.unusedVariables false
/-- The slice v lies in memory that is there. -/
def Inside (w : World) (v : Value) : Prop := ∀ g, v.ownBlock = some g → g < w.heap.size
theorem inside_of_ok {P : Program} {W : World} {base : Nat} {t e : TypeId} {v : Value} (hu : P.underlying t = some (.slice e)) (h : Value.okWide P W .any base t v) : Inside W v := by
  intro g hg
  unfold Value.okWide at h
  rw [hu] at h
  unfold Cell.okWide at h
  rw [hu] at h
  unfold Cell.ok at h
  rw [hu] at h
  match v, hg with
  | .slice (some a) len cap, hg =>
    obtain ⟨-, -, -, -, row, cells, hs, -⟩ := h
    simp only [Value.ownBlock, Option.some.injEq] at hg
    subst hg
    unfold World.shape? at hs
    cases hb : W.heap[a.block]? with
    | none => rw [hb] at hs; simp at hs
    | some o => exact lt_of_block hb
end Go.Proofs.Ytdadloaifebdiaa
/-
  The document's Take: the letter that a Reader's bytes begin with.
-/
namespace Go.Proofs.Ytdadloaifebdiaa
set_option maxRecDepth 100000
open Go.RowKit
set_option linter.unusedVariables false
theorem rnum_none {l : List UInt8} {bad : Bool} (h : bad = true → l = []) (hb : (rnum l bad).2.2 = true) : (rnum l bad).2.1 = [] ∧ (rnum l bad).1 = 0 := by
  unfold rnum at hb ⊢
  split at hb
  · rename_i h0
    rw [if_pos h0]
    exact ⟨rfl, rfl⟩
  · rename_i h0
    have := h hb
    subst this
    exact absurd rfl h0
theorem rtext_none {l : List UInt8} {bad : Bool} (h : bad = true → l = []) (hb : (rtext l bad).2.2 = true) : (rtext l bad).2.1 = [] := by
  unfold rtext at hb ⊢
  split at hb
  · rename_i h0
    rw [if_pos h0]
  · rename_i h0
    rw [if_neg h0]
    dsimp only at hb ⊢
    rw [(rnum_none h hb).1]
    simp
theorem rhead_none {l : List UInt8} {bad : Bool} (h : bad = true → l = []) (hb : (rhead l bad).bad = true) : (rhead l bad).n = 0 := by
  have h1 := fun hb => rtext_none (l := l) (bad := bad) h hb
  have h2 := fun hb => (rnum_none h1 hb).1
  have h3 := fun hb => (rnum_none h2 hb).1
  exact (rnum_none h3 hb).2
theorem Kept.cell_ne {b : Nat} {w w' : World} (k : Kept [b] w w') {p : Addr} {u : Value} (h : w.cell? p = some u) (hn : p.block ≠ b) : w'.cell? p = some u := by
  rw [k.cell (World.block_lt_of_cell? _ _ h) (by simpa using hn)]
  exact h
theorem kept4 (w : World) (b : Nat) (x0 x1 x2 x3 : Value) : Kept [b] w ((((w.setCell ⟨b, 0, none⟩ x0).setCell ⟨b, 1, none⟩ x1).setCell ⟨b, 2, none⟩ x2).setCell ⟨b, 3, none⟩ x3) :=
  ((((Kept.refl [b] w).setCell (p := ⟨b, 0, none⟩) (.inl (by simp)) x0).setCell (p := ⟨b, 1, none⟩) (.inl (by simp)) x1).setCell (p := ⟨b, 2, none⟩) (.inl (by simp)) x2).setCell (p := ⟨b, 3, none⟩) (.inl (by simp)) x3
section
variable {w : World}
end
end Go.Proofs.Ytdadloaifebdiaa
/-
  Decode, and the document's.
-/
namespace Go.Proofs.Ytdadloaifebdiaa
set_option maxRecDepth 100000
open Go.RowKit
set_option linter.unusedVariables false
/-- The letter that bytes are, wholly. -/
def decL (l : List UInt8) : Option Lt := if (!(rlet l false).2.2 && (rlet l false).2.1.isEmpty) = true then (rlet l false).1 else none
theorem decL_ok {l : List UInt8} {x : Lt} (h : decL l = some x) : x.ok ∧ x.formed = true := by
  unfold decL at h
  split at h
  · exact rlet_ok h
  · cases h
theorem formed_le {x : Lt} (h : x.formed = true) : x.fr.length ≤ 40 ∧ x.args.length ≤ 4 := by simpa [Lt.formed] using h
theorem decL_le (l : List UInt8) : ((decL l).getD default).fr.length ≤ 40 ∧ ((decL l).getD default).args.length ≤ 4 := by
  cases h : decL l with
  | none => exact ⟨Nat.zero_le _, Nat.zero_le _⟩
  | some x => exact formed_le (decL_ok h).2
/-- What is encoded is decoded as it was. -/
theorem decL_enc {x : Lt} (hx : x.ok) (hf : x.formed = true) : decL (encL x) = some x := by
  have h := rlet_back x hx hf []
  rw [List.append_nil] at h
  unfold decL
  rw [h]
  rfl
/-- What is decoded has just its own bytes. -/
theorem decL_own {l : List UInt8} {x : Lt} (h : decL l = some x) : encL x = l := by
  unfold decL at h
  split at h
  · rename_i hq
    generalize hr : rlet l false = r at h hq
    obtain ⟨r1, r2, r3⟩ := r
    dsimp only at h hq
    subst h
    simp at hq
    obtain ⟨rfl, rfl⟩ := hq
    have := (rlet_fwd hr).2
    rw [this, List.append_nil]
  · cases h
/-- What Decode answers. -/
def DecAt (w : World) (l : List UInt8) (e : Ending) (w' : World) : Prop :=
  ∃ (a : Option Addr) (c : Nat), e = .returned (.tuple #[Lv ((decL l).getD default) a c, .int .i64 (if (decL l).isSome = true then 0 else 2)]) ∧ OwnsJ w' (.slice a ((decL l).getD default).args.length c) ((decL l).getD default).args ∧ Kept [] w w' ∧ Fresh w (.slice a ((decL l).getD default).args.length c)
theorem decAt_none {w w' : World} {l : List UInt8} (h : decL l = none) (k : Kept [] w w') : DecAt w l (.returned (.tuple #[Lv ⟨[], 0, 0, []⟩ none 0, .int .i64 2])) w' := by
  unfold DecAt
  rw [h]
  exact ⟨none, 0, rfl, OwnsJ.nil w', k, fresh_nil w 0⟩
theorem decAt_some {w w' : World} {l : List UInt8} {x : Lt} {a : Option Addr} {c : Nat} (h : decL l = some x) (ho : OwnsJ w' (.slice a x.args.length c) x.args) (k : Kept [] w w') (hf : Fresh w (.slice a x.args.length c)) : DecAt w l (.returned (.tuple #[Lv x a c, .int .i64 0])) w' := by
  unfold DecAt
  rw [h]
  exact ⟨a, c, rfl, ho, k, hf⟩
section
variable {w : World}
end
end Go.Proofs.Ytdadloaifebdiaa
