/-
  A letter that is being read: the Reader, the letter's own block, and the answer's.
-/
import Derived.Test.YtpcliempoagpoaaFw
import Derived.Test.YtpcliempoagpoaaRText
namespace Go.Proofs.Ytpcliempoagpoaa
open Go.RowKit
set_option linter.unusedVariables false
/-- What read answers, and leaves. -/
def LetAt (t : TypeId) (w : World) (p : Nat) (v : Value) (l : List UInt8) (bad : Bool) (e : Ending) (w' : World) : Prop :=
  ∃ (x : Lt) (a : Option Addr) (c : Nat), e = .returned (.tuple #[Lv x a c, .bool (rlet l bad).1.isSome]) ∧ (∀ y, (rlet l bad).1 = some y → x = y) ∧ OwnsJ w' (.slice a x.args.length c) x.args ∧ Fresh w (.slice a x.args.length c) ∧ Rest t w p v (rlet l bad).2.1 (rlet l bad).2.2 w'
/-- While a letter is read: the Reader (at p) has the bytes l left, the letter x stands in block lb, the answer's block rb is as it was laid. -/
structure LS (t : TypeId) (w : World) (p : Nat) (v : Value) (rb lb : Nat) (wi : World) (l : List UInt8) (bad : Bool) (x : Lt) (a : Option Addr) (c : Nat) : Prop where
  rd : ∃ vi, IsR t wi p vi l bad ∧ Within v vi
  lbox : wi.heap[lb]? = some (.cells #[Sv x.fr, .int .u64 (x.ser : Int), .int .i64 x.kind, .slice a x.args.length c] 34 (0, 0))
  rbox : wi.heap[rb]? = some (.cells #[Sv [], .int .u64 0, .int .i64 0, .slice none 0 0] 34 (0, 0))
  own : OwnsJ wi (.slice a x.args.length c) x.args
  fr : ∀ g, (Value.slice a x.args.length c).ownBlock = some g → w.heap.size ≤ g ∧ g ≠ lb ∧ g ≠ rb
  kp : Kept [p] w wi
  hp : p < w.heap.size
  hv : ∀ g, v.ownBlock = some g → g < w.heap.size
  hl : w.heap.size ≤ lb
  hr : w.heap.size ≤ rb
  hlr : lb ≠ rb
section
variable {t : TypeId} {w : World} {p : Nat} {v : Value} {rb lb : Nat} {wi wj : World} {l l' : List UInt8} {bad bad' : Bool} {x : Lt} {a : Option Addr} {c : Nat}
theorem LS.next (s : LS t w p v rb lb wi l bad x a c) {vi : Value} (hV : Within v vi) (h : Rest t wi p vi l' bad' wj) : LS t w p v rb lb wj l' bad' x a c := by
  obtain ⟨vj, hR, k, hW⟩ := h
  have hp := s.hp
  have h1 := s.hl
  have h2 := s.hr
  refine ⟨⟨vj, hR, hV.trans hW⟩, k.keeps s.lbox (by simp; omega), k.keeps s.rbox (by simp; omega), s.own.kept k (fun g hg hm => ?_), s.fr, s.kp.trans k (fun y hy => .inl hy), s.hp, s.hv, s.hl, s.hr, s.hlr⟩
  have := s.fr g hg
  simp at hm
  omega
theorem LS.drew (s : LS t w p v rb lb wi l bad x a c) : LS t w p v rb lb wi.drew l bad x a c := by
  obtain ⟨vi, hR, hV⟩ := s.rd
  exact ⟨⟨vi, ⟨hR.box, hR.reads, hR.apart, hR.none⟩, hV⟩, s.lbox, s.rbox, OwnsJ.kept s.own (Kept.refl [] wi).drew (by simp), s.fr, s.kp.drew, s.hp, s.hv, s.hl, s.hr, s.hlr⟩
/-- A store into the letter's block, or a row of its own that grows. -/
theorem LS.turn {S : List Nat} {x' : Lt} {a' : Option Addr} {c' : Nat} (s : LS t w p v rb lb wi l bad x a c) (k : Kept S wi wj) (hS : ∀ y ∈ S, w.heap.size ≤ y ∧ y ≠ rb) (hl : wj.heap[lb]? = some (.cells #[Sv x'.fr, .int .u64 (x'.ser : Int), .int .i64 x'.kind, .slice a' x'.args.length c'] 34 (0, 0)))
    (ho : OwnsJ wj (.slice a' x'.args.length c') x'.args) (hf : ∀ g, (Value.slice a' x'.args.length c').ownBlock = some g → w.heap.size ≤ g ∧ g ≠ lb ∧ g ≠ rb) : LS t w p v rb lb wj l bad x' a' c' := by
  obtain ⟨vi, hR, hV⟩ := s.rd
  have hp := s.hp
  refine ⟨⟨vi, hR.kept k (fun hm => ?_) (fun g hg hm => ?_), hV⟩, hl, k.keeps s.rbox (fun hm => (hS _ hm).2 rfl), ho, hf, s.kp.trans k (fun y hy => .inr (hS y hy).1), s.hp, s.hv, s.hl, s.hr, s.hlr⟩
  · have := hS _ hm; omega
  · have := s.hv g (hV g hg)
    have := hS _ hm
    omega
theorem LS.kept0 (s : LS t w p v rb lb wi l bad x a c) (k : Kept [] wi wj) : LS t w p v rb lb wj l bad x a c := s.turn k (by simp) (k.keeps s.lbox (by simp)) (s.own.kept k (by simp)) s.fr
theorem LS.set (s : LS t w p v rb lb wi l bad x a c) {x' : Lt} (u : Value) (k : Nat) (ha : x'.args = x.args) (hl : (wi.setCell ⟨lb, k, none⟩ u).heap[lb]? = some (.cells #[Sv x'.fr, .int .u64 (x'.ser : Int), .int .i64 x'.kind, .slice a x'.args.length c] 34 (0, 0))) : LS t w p v rb lb (wi.setCell ⟨lb, k, none⟩ u) l bad x' a c := by
  have kk := (Kept.refl [lb] wi).setCell (p := ⟨lb, k, none⟩) (.inl (by simp)) u
  refine s.turn kk (fun y hy => by simp at hy; subst hy; exact ⟨s.hl, s.hlr⟩) hl ?_ (by rw [ha]; exact s.fr)
  rw [ha]
  exact s.own.kept kk (fun g hg hm => by have := s.fr g hg; simp at hm; omega)
theorem LS.set0 (s : LS t w p v rb lb wi l bad x a c) (fr : List UInt8) : LS t w p v rb lb (wi.setCell ⟨lb, 0, none⟩ (Sv fr)) l bad ⟨fr, x.ser, x.kind, x.args⟩ a c := s.set _ 0 rfl (set4_0 s.lbox)
theorem LS.set1 (s : LS t w p v rb lb wi l bad x a c) (n : Nat) : LS t w p v rb lb (wi.setCell ⟨lb, 1, none⟩ (.int .u64 (n : Int))) l bad ⟨x.fr, n, x.kind, x.args⟩ a c := s.set _ 1 rfl (set4_1 s.lbox)
theorem LS.set2 (s : LS t w p v rb lb wi l bad x a c) (z : Int) : LS t w p v rb lb (wi.setCell ⟨lb, 2, none⟩ (.int .i64 z)) l bad ⟨x.fr, x.ser, z, x.args⟩ a c := s.set _ 2 rfl (set4_2 s.lbox)
/-- 'l.Args = append(l.Args, z)': the run of the append, and what the store leaves. -/
theorem LS.app (s : LS t w p v rb lb wi l bad x a c) (z : Int) (hn : x.args.length ≤ 100000) : ∃ a' c' w2, (Builtin.append_ #[32, 32] 32 #[.slice a x.args.length c, .slice (some ⟨wi.heap.size, 0, none⟩) 1 1]).run Try.prog (wi.alloc (.cells #[.int .i64 z] 2)) = .ok (.slice a' (x.args.length + 1) c') w2
    ∧ w2.cell? ⟨lb, 3, none⟩ = some (.slice a x.args.length c) ∧ w2.frozen? ⟨lb, 3, none⟩ = false ∧ LS t w p v rb lb (w2.setCell ⟨lb, 3, none⟩ (.slice a' (x.args.length + 1) c')) l bad ⟨x.fr, x.ser, x.kind, x.args ++ [z]⟩ a' c' := by
  obtain ⟨a', c', w2, hrun, ho, k, hN⟩ := append_rowR rt23 s.own [.int .i64 z] rfl (fun u hu => by simp at hu; subst hu; rfl) (by rw [CJ_length]; omega) 2 (0, 0) 32
  rw [CJ_length] at *
  have hlb := lt_of_block s.lbox
  have hrb := lt_of_block s.rbox
  have hb := k.keeps s.lbox (fun hm => by rw [Option.mem_toList] at hm; have := s.fr _ hm; omega)
  have hz := k.size
  have hf : ∀ g, (Value.slice a' (x.args.length + 1) c').ownBlock = some g → w.heap.size ≤ g ∧ g ≠ lb ∧ g ≠ rb := fun g hg => by
    rcases hN g hg with h | h
    · exact s.fr g h
    · have := s.kp.size; exact ⟨by omega, by omega, by omega⟩
  refine ⟨a', c', w2, hrun, (cells4 hb).2.2.2, (free4 hb).2.2.2, ?_⟩
  have e : x.args.length + 1 = (x.args ++ [z]).length := by simp
  have k2 := (Kept.refl [lb] w2).setCell (p := ⟨lb, 3, none⟩) (.inl (by simp)) (.slice a' (x.args.length + 1) c')
  have kk : Kept (lb :: (Value.slice a x.args.length c).ownBlock.toList) wi (w2.setCell ⟨lb, 3, none⟩ (.slice a' (x.args.length + 1) c')) := (k.mono (fun y hy => .inl (by simp [hy]))).trans k2 (fun y hy => .inl (by simp at hy; simp [hy]))
  have ho2 : OwnsR 2 1 (w2.setCell ⟨lb, 3, none⟩ (.slice a' (x.args.length + 1) c')) (.slice a' (x.args.length + 1) c') (CJ x.args ++ [[.int .i64 z]]) := OwnsR.kept ho k2 (fun g hg hm => by have := hf g hg; simp at hm; omega)
  refine s.turn kk (fun y hy => ?_) ?_ ?_ ?_
  · simp at hy
    rcases hy with rfl | hy
    · exact ⟨s.hl, s.hlr⟩
    · have := s.fr y hy; exact ⟨this.1, this.2.2⟩
  · have := set4_3 (x := .slice a' (x.args.length + 1) c') hb
    simpa using this
  · have : CJ (x.args ++ [z]) = CJ x.args ++ [[.int .i64 z]] := by simp [CJ]
    unfold OwnsJ
    rw [this, ← e]
    exact ho2
  · rw [← e]
    exact hf
theorem LS.rest (s : LS t w p v rb lb wi l' bad' x a c) (k : Kept [rb] wi wj) : Rest t w p v l' bad' wj ∧ OwnsJ wj (.slice a x.args.length c) x.args ∧ Fresh w (.slice a x.args.length c) := by
  obtain ⟨vi, hR, hV⟩ := s.rd
  have hp := s.hp
  have hr := s.hr
  refine ⟨⟨vi, hR.kept k (by simp; omega) (fun g hg hm => ?_), s.kp.trans k (fun y hy => by simp at hy; subst hy; exact .inr hr), hV⟩, s.own.kept k (fun g hg hm => ?_), fun g hg => (s.fr g hg).1⟩
  · have := s.hv g (hV g hg)
    simp at hm
    omega
  · have := (s.fr g hg).2.2
    simp at hm
    exact this hm
/-- The answer is the letter. -/
theorem LS.done (s : LS t w p v rb lb wi l' bad' x a c) (k : Kept [rb] wi wj) (h : rlet l bad = (some x, l', bad')) : LetAt t w p v l bad (.returned (.tuple #[Lv x a c, .bool true])) wj := by
  obtain ⟨h1, h2, h3⟩ := s.rest k
  unfold LetAt
  rw [h]
  exact ⟨x, a, c, rfl, fun y hy => by simpa using hy, h2, h3, h1⟩
/-- The answer is no letter. -/
theorem LS.fail (s : LS t w p v rb lb wi l' bad' x a c) (k : Kept [rb] wi wj) (h : rlet l bad = (none, l', bad')) : LetAt t w p v l bad (.returned (.tuple #[Lv ⟨[], 0, 0, []⟩ none 0, .bool false])) wj := by
  obtain ⟨h1, h2, h3⟩ := s.rest k
  unfold LetAt
  rw [h]
  exact ⟨_, none, 0, rfl, fun y hy => by simp at hy, OwnsJ.nil wj, fun g hg => by simp [Value.ownBlock] at hg, h1⟩
/-- The answer is what was read, and whether it is a letter. -/
theorem LS.told (s : LS t w p v rb lb wi l' bad' x a c) (k : Kept [rb] wi wj) {o : Option Lt} {b : Bool} (h : rlet l bad = (o, l', bad')) (hb : o.isSome = b) (ho : ∀ y, o = some y → x = y) : LetAt t w p v l bad (.returned (.tuple #[Lv x a c, .bool b])) wj := by
  obtain ⟨h1, h2, h3⟩ := s.rest k
  unfold LetAt
  rw [h]
  exact ⟨x, a, c, by rw [← hb], ho, h2, h3, h1⟩
end
end Go.Proofs.Ytpcliempoagpoaa
