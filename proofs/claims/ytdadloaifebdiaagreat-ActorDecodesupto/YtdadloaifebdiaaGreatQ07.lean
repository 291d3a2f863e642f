import Derived.Test.YtdadloaifebdiaaGreatQ03
import Derived.Test.YtdadloaifebdiaaGreatQ06
/-
  few, and awake.
-/
namespace Go.Proofs.YtdadloaifebdiaaGreat
set_option maxRecDepth 100000
open Go.RowKit
set_option linter.unusedVariables false
section
variable {w : World}
/-- Letters of a size that is looked at. -/
def FewQ (l : List Lq) : Prop := l.length ≤ 301 ∧ ∀ q ∈ l, q.x.fr.length ≤ 1000 ∧ q.x.args.length ≤ 1000
/-- What few answers. -/
def FewAt (l : List Lq) (w : World) (e : Ending) (w' : World) : Prop := ∃ b : Bool, e = .returned (.bool b) ∧ (b = true → FewQ l) ∧ Kept [] w w'
theorem few_yes {l : List Lq} {w w' : World} (h : FewQ l) (k : Kept [] w w') : FewAt l w (.returned (.bool true)) w' := ⟨true, rfl, fun _ => h, k⟩
theorem few_no {l : List Lq} {w w' : World} (k : Kept [] w w') : FewAt l w (.returned (.bool false)) w' := ⟨false, rfl, (fun h => Bool.noConfusion h), k⟩
/-- A new block of rows reads as them. -/
theorem reads_rows {k : Nat} (w : World) (rs : List (List Value)) (hw : Wide k rs) (hl : rs.length ≤ maxLen) (t : TypeId) (fr : Nat × Nat) : ReadsR k (w.alloc (.cells rs.flatten.toArray t fr)) (.slice (some ⟨w.heap.size, 0, none⟩) rs.length rs.length) rs := by
  have hh : (w.alloc (.cells rs.flatten.toArray t fr)).heap[w.heap.size]? = some (.cells rs.flatten.toArray t fr) := heap_alloc_new w _
  refine ⟨_, rs.length, rfl, Nat.le_refl _, hl, by simp, fun _ => ⟨w.heap.size, 0, rfl, fun j u hu i x hx => ?_⟩⟩
  have := hw.at j u hu i x hx
  unfold World.cell?
  rw [hh]
  simpa using this
theorem rowQ_new (w : World) (l : List Lq) (hl : l.length ≤ 1000) (t : TypeId) (fr : Nat × Nat) : RowQ (w.alloc (.cells (CQ l).flatten.toArray t fr)) (.slice (some ⟨w.heap.size, 0, none⟩) l.length l.length) l := by
  have := reads_rows w (CQ l) (CQ_wide l) (by rw [CQ_length]; unfold maxLen; omega) t fr
  rwa [CQ_length] at this
end
end Go.Proofs.YtdadloaifebdiaaGreat
/-
  A letter that is being read: the Reader, the letter's own block, and the answer's.
-/
namespace Go.Proofs.YtdadloaifebdiaaGreat
set_option maxRecDepth 100000
open Go.RowKit
set_option linter.unusedVariables false
/-- What read answers, and leaves. -/
def LetAt (t : TypeId) (w : World) (p : Nat) (v : Value) (l : List UInt8) (bad : Bool) (e : Ending) (w' : World) : Prop :=
  ∃ (x : Lt) (a : Option Addr) (c : Nat), e = .returned (.tuple #[Lv x a c, .bool (rlet l bad).1.isSome]) ∧ (∀ y, (rlet l bad).1 = some y → x = y) ∧ OwnsJ w' (.slice a x.args.length c) x.args ∧ Fresh w (.slice a x.args.length c) ∧ Rest t w p v (rlet l bad).2.1 (rlet l bad).2.2 w'
/-- While a letter is read: the Reader (at p) has the bytes l left, the letter x stands in block lb, the answer's block rb is as it was laid. -/
structure LS (t : TypeId) (w : World) (p : Nat) (v : Value) (rb lb : Nat) (wi : World) (l : List UInt8) (bad : Bool) (x : Lt) (a : Option Addr) (c : Nat) : Prop where
  rd : ∃ vi, IsR t wi p vi l bad ∧ Within v vi
  lbox : wi.heap[lb]? = some (.cells #[Sv x.fr, .int .u64 (x.ser : Int), .int .i64 x.kind, .slice a x.args.length c] 90 (0, 0))
  rbox : wi.heap[rb]? = some (.cells #[Sv [], .int .u64 0, .int .i64 0, .slice none 0 0] 90 (0, 0))
  own : OwnsJ wi (.slice a x.args.length c) x.args
  fr : ∀ g, (Value.slice a x.args.length c).ownBlock = some g → w.heap.size ≤ g ∧ g ≠ lb ∧ g ≠ rb
  kp : Kept [p] w wi
  hp : p < w.heap.size
  hv : ∀ g, v.ownBlock = some g → g < w.heap.size
  hl : w.heap.size ≤ lb
  hr : w.heap.size ≤ rb
  hlr : lb ≠ rb
section
variable {t : TypeId} {w : World} {p : Nat} {v : Value} {rb lb : Nat} {wi wj : World} {l l' : List UInt8} {bad bad' : Bool} {x : Lt} {a : Option Addr} {c : Nat}
theorem LS.next (s : LS t w p v rb lb wi l bad x a c) {vi : Value} (hV : Within v vi) (h : Rest t wi p vi l' bad' wj) : LS t w p v rb lb wj l' bad' x a c := by
  obtain ⟨vj, hR, k, hW⟩ := h
  have hp := s.hp
  have h1 := s.hl
  have h2 := s.hr
  refine ⟨⟨vj, hR, hV.trans hW⟩, k.keeps s.lbox (by simp; omega), k.keeps s.rbox (by simp; omega), s.own.kept k (fun g hg hm => ?_), s.fr, s.kp.trans k (fun y hy => .inl hy), s.hp, s.hv, s.hl, s.hr, s.hlr⟩
  have := s.fr g hg
  simp at hm
  omega
theorem LS.drew (s : LS t w p v rb lb wi l bad x a c) : LS t w p v rb lb wi.drew l bad x a c := by
  obtain ⟨vi, hR, hV⟩ := s.rd
  exact ⟨⟨vi, ⟨hR.box, hR.reads, hR.apart, hR.none⟩, hV⟩, s.lbox, s.rbox, OwnsJ.kept s.own (Kept.refl [] wi).drew (by simp), s.fr, s.kp.drew, s.hp, s.hv, s.hl, s.hr, s.hlr⟩
/-- A store into the letter's block, or a row of its own that grows. -/
theorem LS.turn {S : List Nat} {x' : Lt} {a' : Option Addr} {c' : Nat} (s : LS t w p v rb lb wi l bad x a c) (k : Kept S wi wj) (hS : ∀ y ∈ S, w.heap.size ≤ y ∧ y ≠ rb) (hl : wj.heap[lb]? = some (.cells #[Sv x'.fr, .int .u64 (x'.ser : Int), .int .i64 x'.kind, .slice a' x'.args.length c'] 90 (0, 0)))
    (ho : OwnsJ wj (.slice a' x'.args.length c') x'.args) (hf : ∀ g, (Value.slice a' x'.args.length c').ownBlock = some g → w.heap.size ≤ g ∧ g ≠ lb ∧ g ≠ rb) : LS t w p v rb lb wj l bad x' a' c' := by
  obtain ⟨vi, hR, hV⟩ := s.rd
  have hp := s.hp
  refine ⟨⟨vi, hR.kept k (fun hm => ?_) (fun g hg hm => ?_), hV⟩, hl, k.keeps s.rbox (fun hm => (hS _ hm).2 rfl), ho, hf, s.kp.trans k (fun y hy => .inr (hS y hy).1), s.hp, s.hv, s.hl, s.hr, s.hlr⟩
  · have := hS _ hm; omega
  · have := s.hv g (hV g hg)
    have := hS _ hm
    omega
theorem LS.kept0 (s : LS t w p v rb lb wi l bad x a c) (k : Kept [] wi wj) : LS t w p v rb lb wj l bad x a c := s.turn k (by simp) (k.keeps s.lbox (by simp)) (s.own.kept k (by simp)) s.fr
theorem LS.set (s : LS t w p v rb lb wi l bad x a c) {x' : Lt} (u : Value) (k : Nat) (ha : x'.args = x.args) (hl : (wi.setCell ⟨lb, k, none⟩ u).heap[lb]? = some (.cells #[Sv x'.fr, .int .u64 (x'.ser : Int), .int .i64 x'.kind, .slice a x'.args.length c] 90 (0, 0))) : LS t w p v rb lb (wi.setCell ⟨lb, k, none⟩ u) l bad x' a c := by
  have kk := (Kept.refl [lb] wi).setCell (p := ⟨lb, k, none⟩) (.inl (by simp)) u
  refine s.turn kk (fun y hy => by simp at hy; subst hy; exact ⟨s.hl, s.hlr⟩) hl ?_ (by rw [ha]; exact s.fr)
  rw [ha]
  exact s.own.kept kk (fun g hg hm => by have := s.fr g hg; simp at hm; omega)
theorem LS.set0 (s : LS t w p v rb lb wi l bad x a c) (fr : List UInt8) : LS t w p v rb lb (wi.setCell ⟨lb, 0, none⟩ (Sv fr)) l bad ⟨fr, x.ser, x.kind, x.args⟩ a c := s.set _ 0 rfl (set4_0 s.lbox)
theorem LS.set1 (s : LS t w p v rb lb wi l bad x a c) (n : Nat) : LS t w p v rb lb (wi.setCell ⟨lb, 1, none⟩ (.int .u64 (n : Int))) l bad ⟨x.fr, n, x.kind, x.args⟩ a c := s.set _ 1 rfl (set4_1 s.lbox)
theorem LS.set2 (s : LS t w p v rb lb wi l bad x a c) (z : Int) : LS t w p v rb lb (wi.setCell ⟨lb, 2, none⟩ (.int .i64 z)) l bad ⟨x.fr, x.ser, z, x.args⟩ a c := s.set _ 2 rfl (set4_2 s.lbox)
/-- 'l.Args = append(l.Args, z)': the run of the append, and what the store leaves. -/
theorem LS.app (s : LS t w p v rb lb wi l bad x a c) (z : Int) (hn : x.args.length ≤ 100000) : ∃ a' c' w2, (Builtin.append_ #[88, 88] 88 #[.slice a x.args.length c, .slice (some ⟨wi.heap.size, 0, none⟩) 1 1]).run Tryz.prog (wi.alloc (.cells #[.int .i64 z] 2)) = .ok (.slice a' (x.args.length + 1) c') w2
    ∧ w2.cell? ⟨lb, 3, none⟩ = some (.slice a x.args.length c) ∧ w2.frozen? ⟨lb, 3, none⟩ = false ∧ LS t w p v rb lb (w2.setCell ⟨lb, 3, none⟩ (.slice a' (x.args.length + 1) c')) l bad ⟨x.fr, x.ser, x.kind, x.args ++ [z]⟩ a' c' := by
  obtain ⟨a', c', w2, hrun, ho, k, hN⟩ := append_rowR rt23 s.own [.int .i64 z] rfl (fun u hu => by simp at hu; subst hu; rfl) (by rw [CJ_length]; omega) 2 (0, 0) 88
  rw [CJ_length] at *
  have hlb := lt_of_block s.lbox
  have hrb := lt_of_block s.rbox
  have hb := k.keeps s.lbox (fun hm => by rw [Option.mem_toList] at hm; have := s.fr _ hm; omega)
  have hz := k.size
  have hf : ∀ g, (Value.slice a' (x.args.length + 1) c').ownBlock = some g → w.heap.size ≤ g ∧ g ≠ lb ∧ g ≠ rb := fun g hg => by
    rcases hN g hg with h | h
    · exact s.fr g h
    · have := s.kp.size; exact ⟨by omega, by omega, by omega⟩
  refine ⟨a', c', w2, hrun, (cells4 hb).2.2.2, (free4 hb).2.2.2, ?_⟩
  have e : x.args.length + 1 = (x.args ++ [z]).length := by simp
  have k2 := (Kept.refl [lb] w2).setCell (p := ⟨lb, 3, none⟩) (.inl (by simp)) (.slice a' (x.args.length + 1) c')
  have kk : Kept (lb :: (Value.slice a x.args.length c).ownBlock.toList) wi (w2.setCell ⟨lb, 3, none⟩ (.slice a' (x.args.length + 1) c')) := (k.mono (fun y hy => .inl (by simp [hy]))).trans k2 (fun y hy => .inl (by simp at hy; simp [hy]))
  have ho2 : OwnsR 2 1 (w2.setCell ⟨lb, 3, none⟩ (.slice a' (x.args.length + 1) c')) (.slice a' (x.args.length + 1) c') (CJ x.args ++ [[.int .i64 z]]) := OwnsR.kept ho k2 (fun g hg hm => by have := hf g hg; simp at hm; omega)
  refine s.turn kk (fun y hy => ?_) ?_ ?_ ?_
  · simp at hy
    rcases hy with rfl | hy
    · exact ⟨s.hl, s.hlr⟩
    · have := s.fr y hy; exact ⟨this.1, this.2.2⟩
  · have := set4_3 (x := .slice a' (x.args.length + 1) c') hb
    simpa using this
  · have : CJ (x.args ++ [z]) = CJ x.args ++ [[.int .i64 z]] := by simp [CJ]
    unfold OwnsJ
    rw [this, ← e]
    exact ho2
  · rw [← e]
    exact hf
theorem LS.rest (s : LS t w p v rb lb wi l' bad' x a c) (k : Kept [rb] wi wj) : Rest t w p v l' bad' wj ∧ OwnsJ wj (.slice a x.args.length c) x.args ∧ Fresh w (.slice a x.args.length c) := by
  obtain ⟨vi, hR, hV⟩ := s.rd
  have hp := s.hp
  have hr := s.hr
  refine ⟨⟨vi, hR.kept k (by simp; omega) (fun g hg hm => ?_), s.kp.trans k (fun y hy => by simp at hy; subst hy; exact .inr hr), hV⟩, s.own.kept k (fun g hg hm => ?_), fun g hg => (s.fr g hg).1⟩
  · have := s.hv g (hV g hg)
    simp at hm
    omega
  · have := (s.fr g hg).2.2
    simp at hm
    exact this hm
/-- The answer is the letter. -/
theorem LS.done (s : LS t w p v rb lb wi l' bad' x a c) (k : Kept [rb] wi wj) (h : rlet l bad = (some x, l', bad')) : LetAt t w p v l bad (.returned (.tuple #[Lv x a c, .bool true])) wj := by
  obtain ⟨h1, h2, h3⟩ := s.rest k
  unfold LetAt
  rw [h]
  exact ⟨x, a, c, rfl, fun y hy => by simpa using hy, h2, h3, h1⟩
/-- The answer is no letter. -/
theorem LS.fail (s : LS t w p v rb lb wi l' bad' x a c) (k : Kept [rb] wi wj) (h : rlet l bad = (none, l', bad')) : LetAt t w p v l bad (.returned (.tuple #[Lv ⟨[], 0, 0, []⟩ none 0, .bool false])) wj := by
  obtain ⟨h1, h2, h3⟩ := s.rest k
  unfold LetAt
  rw [h]
  exact ⟨_, none, 0, rfl, fun y hy => by simp at hy, OwnsJ.nil wj, fun g hg => by simp [Value.ownBlock] at hg, h1⟩
/-- The answer is what was read, and whether it is a letter. -/
theorem LS.told (s : LS t w p v rb lb wi l' bad' x a c) (k : Kept [rb] wi wj) {o : Option Lt} {b : Bool} (h : rlet l bad = (o, l', bad')) (hb : o.isSome = b) (ho : ∀ y, o = some y → x = y) : LetAt t w p v l bad (.returned (.tuple #[Lv x a c, .bool b])) wj := by
  obtain ⟨h1, h2, h3⟩ := s.rest k
  unfold LetAt
  rw [h]
  exact ⟨x, a, c, by rw [← hb], ho, h2, h3, h1⟩
end
end Go.Proofs.YtdadloaifebdiaaGreat
/-
  read: the letter that a Reader's bytes begin with.
-/
namespace Go.Proofs.YtdadloaifebdiaaGreat
set_option maxRecDepth 100000
open Go.RowKit
set_option linter.unusedVariables false
section
variable {w : World}
set_option maxRecDepth 100000 in
set_option maxHeartbeats 1000000 in
theorem read34 (p : Nat) (v : Value) (l : List UInt8) (bad : Bool) (hR : IsR 122 w p v l bad) (hv : ∀ g, v.ownBlock = some g → g < w.heap.size) : Calls Tryz.prog 116 #[.pointer (some ⟨p, 0, none⟩)] w fun e w' => LetAt 122 w p v l bad e w' := by
  go_enter Tryz.func116, Tryz.ntmps116
  go_wp2_with fail
  obtain ⟨W0, e0, k0, hz0, hb0, hb1⟩ := box2 w (.cells #[.string ⟨#[]⟩, .int .u64 0, .int .i64 0, .slice none 0 0] 90) (.cells #[.string ⟨#[]⟩, .int .u64 0, .int .i64 0, .slice none 0 0] 90)
  rw [e0]
  clear e0
  have s0 : LS 122 w p v w.heap.size (w.heap.size + 1) W0 l bad ⟨[], 0, 0, []⟩ none 0 := ⟨⟨v, hR.kept k0 (by simp) (by simp), Within.refl v⟩, hb1, hb0, OwnsJ.nil W0, fun g hg => by simp [Value.ownBlock] at hg, k0.mono (by simp), hR.lt, hv, by omega, by omega, by omega⟩
  clear hb0 hb1 k0 hz0
  obtain ⟨vi, hRi, hVi⟩ := s0.rd
  refine (rtext_any p vi l bad W0 hRi).mono ?_
  rintro e w1 ⟨rfl, h1⟩
  have s1 := s0.next hVi h1
  clear h1 hRi hVi s0
  obtain ⟨c0, c1, c2, c3⟩ := cells4 s1.lbox
  obtain ⟨f0, f1, f2, f3⟩ := free4 s1.lbox
  have H1 := Hid.mk (s1.set0 (rtext l bad).1)
  clear s1
  go_wp2_with fail
  obtain ⟨vi, hRi, hVi⟩ := H1.out.rd
  refine (rnum_any p vi _ _ _ hRi).mono ?_
  rintro e w2 ⟨rfl, h2⟩
  have s2 := H1.out.next hVi h2
  clear h2 hRi hVi H1 c0 c1 c2 c3 f0 f1 f2 f3
  obtain ⟨c0, c1, c2, c3⟩ := cells4 s2.lbox
  obtain ⟨f0, f1, f2, f3⟩ := free4 s2.lbox
  have H2 := Hid.mk (s2.set1 (rnum (rtext l bad).2.1 (rtext l bad).2.2).1)
  clear s2
  go_wp2_with fail
  obtain ⟨vi, hRi, hVi⟩ := H2.out.rd
  refine (rint_any p vi _ _ _ hRi).mono ?_
  rintro e w3 ⟨rfl, h3⟩
  have s3 := H2.out.next hVi h3
  clear h3 hRi hVi H2 c0 c1 c2 c3 f0 f1 f2 f3
  obtain ⟨c0, c1, c2, c3⟩ := cells4 s3.lbox
  obtain ⟨f0, f1, f2, f3⟩ := free4 s3.lbox
  have H3 := Hid.mk (s3.set2 (unfold (rnum (rnum (rtext l bad).2.1 (rtext l bad).2.2).2.1 (rnum (rtext l bad).2.1 (rtext l bad).2.2).2.2).1))
  clear s3
  go_wp2_with fail
  obtain ⟨vi, hRi, hVi⟩ := H3.out.rd
  refine (rnum_any p vi _ _ _ hRi).mono ?_
  rintro e w4 ⟨rfl, h4⟩
  have s4 := H3.out.next hVi h4
  clear h4 hRi hVi H3 c0 c1 c2 c3 f0 f1 f2 f3
  change LS 122 w p v w.heap.size (w.heap.size + 1) w4 (rhead l bad).rest (rhead l bad).bad ⟨(rhead l bad).fr, (rhead l bad).ser, (rhead l bad).kind, []⟩ none 0 at s4
  have hN : (rnum (rnum (rnum (rtext l bad).2.1 (rtext l bad).2.2).2.1 (rnum (rtext l bad).2.1 (rtext l bad).2.2).2.2).2.1 (rnum (rnum (rtext l bad).2.1 (rtext l bad).2.2).2.1 (rnum (rtext l bad).2.1 (rtext l bad).2.2).2.2).2.2).1 = (rhead l bad).n := rfl
  rw [hN]
  clear hN
  generalize hh : rhead l bad = h at s4
  have HH := Hid.mk hh
  clear hh
  obtain ⟨c0, c1, c2, c3⟩ := cells4 s4.lbox
  obtain ⟨d0, d1, d2, d3⟩ := cells4 s4.rbox
  obtain ⟨g0, g1, g2, g3⟩ := free4 s4.rbox
  by_cases hn : 4 < h.n
  · have hnI : (4 : Int) < (h.n : Int) := by omega
    go_wp2_with fail
    obtain ⟨W5, e5, k5, hb5, -⟩ := put4 s4.rbox (.string ⟨#[]⟩) (.int .u64 0) (.int .i64 0) (.slice none 0 0)
    rw [e5]
    clear e5
    refine bodyPost_ret (results_cell_row2 (p := 2) (u := 3) (ty := 90) rfl _ _ w.heap.size 90 _ (0, 0) _ rfl hb5 Tryz.underlying90 rfl (by kernel_rfl) _ rfl) rfl ?_
    exact s4.fail k5 (by unfold rlet; rw [HH.out]; dsimp only; rw [if_pos hn])
  · have hnI : ((4 : Int) < (h.n : Int)) = False := eq_false (by omega)
    clear d0 d1 d2 d3 g0 g1 g2 g3 c0 c1 c2 c3
    go_wp2_with fail
    go_loopw [21] (fun i wr => ∃ (j : Nat) (a : Option Addr) (c : Nat), i = .int .u64 (j : Int) ∧ j ≤ h.n ∧ Hid (LS 122 w p v w.heap.size (w.heap.size + 1) wr (rints j h.rest h.bad).2.1 (rints j h.rest h.bad).2.2 ⟨h.fr, h.ser, h.kind, (rints j h.rest h.bad).1⟩ a c)) (fun i _ => h.n - (intOf i).toNat)
    case atStart => exact ⟨0, none, 0, rfl, by omega, Hid.mk s4⟩
    case round =>
      obtain ⟨j, a, c, rfl, hj, hs⟩ := hrel
      by_cases hlt : j < h.n
      · have hjI : (j : Int) < (h.n : Int) := by omega
        have hjl := rints_length j h.rest h.bad
        have sd := hs.out.drew
        obtain ⟨c0, c1, c2, c3⟩ := cells4 sd.lbox
        obtain ⟨vi, hRi, hVi⟩ := sd.rd
        have hC := rint_any p vi _ _ _ hRi
        have HS := Hid.mk sd
        have HV := Hid.mk hVi
        have HL := Hid.mk hjl
        clear c0 c1 c2 sd hRi hVi hs hjl
        generalize hra : rints j h.rest h.bad = r at hC HS HL c3
        have HR := Hid.mk hra
        clear hra
        go_wp2_with fail
        go_region_law (first | (refine step_append_run 88 (.tmp 24) (.tmp 27) (by rfl) (by rfl) _ _ (by rfl) (by rfl) hrun ?_) | (go_simp; go_at_call 112; refine Calls.mono hC ?_; rintro e w5 ⟨rfl, h5⟩; obtain ⟨a6, c6, w6, hrun, q3, qf, s6⟩ := (HS.out.next HV.out h5).app (unfold (rnum r.2.1 r.2.2).1) (by show r.1.length ≤ 100000; rw [HL.out]; omega); have S6 := Hid.mk s6; clear s6; have q5 := (cells4 (HS.out.next HV.out h5).lbox).2.2.2; have q6 := ((Kept.refl [] w5).alloc (.cells #[.int .i64 (unfold (rnum r.2.1 r.2.2).1)] 2)).cell_eq q5))
        all_goals
          clear hC q3 qf q5 q6 hrun c3
          go_wp2
          go_roundw
          case rel =>
            refine ⟨j + 1, a6, c6, by go_num, by omega, Hid.mk ?_⟩
            rw [rints_snoc, HR.out]
            exact S6.out
          case measure => simp [intOf]; omega
      · obtain rfl : j = h.n := by omega
        have HL : Hid (rlet l bad = if (rints h.n h.rest h.bad).2.2 = true ∨ 40 < h.fr.length then (none, (rints h.n h.rest h.bad).2.1, (rints h.n h.rest h.bad).2.2) else (some ⟨h.fr, h.ser, h.kind, (rints h.n h.rest h.bad).1⟩, (rints h.n h.rest h.bad).2.1, (rints h.n h.rest h.bad).2.2)) := by
          show _ = _
          unfold rlet
          rw [HH.out]
          dsimp only
          rw [if_neg hn]
        have hrl := rints_length h.n h.rest h.bad
        generalize rints h.n h.rest h.bad = r at hs HL hrl
        have hfm : (⟨h.fr, h.ser, h.kind, r.1⟩ : Lt).formed = decide (h.fr.length ≤ 40) := by
          unfold Lt.formed
          dsimp only
          rw [hrl]
          simp
          omega
        have HF := fun W => formed13 (w := W) ⟨h.fr, h.ser, h.kind, r.1⟩ a c
        rw [hfm] at HF
        have HF := Hid.mk HF
        clear hfm
        obtain ⟨vi, hRi, hVi⟩ := hs.out.rd
        have hB := bad_any p vi _ _ _ hRi
        have HV := Hid.mk hVi
        clear hRi hVi
        obtain ⟨c0, c1, c2, c3⟩ := cells4 hs.out.lbox
        obtain ⟨d0, d1, d2, d3⟩ := cells4 hs.out.rbox
        obtain ⟨g0, g1, g2, g3⟩ := free4 hs.out.rbox
        have HR := Hid.mk hrl
        clear hrl
        go_wp2_with fail
        refine Calls.mono hB ?_
        rintro e w5 ⟨rfl, rfl⟩
        cases hrb : r.2.2 with
        | true =>
          have HB := Hid.mk hrb
          go_wp2_with fail
          obtain ⟨W5, e5, k5, hb5, -⟩ := put4 hs.out.rbox (.string ⟨#[]⟩) (.int .u64 0) (.int .i64 0) (.slice none 0 0)
          rw [e5]
          clear e5
          refine bodyPost_ret (results_cell_row2 (p := 2) (u := 3) (ty := 90) rfl _ _ w.heap.size 90 _ (0, 0) _ rfl hb5 Tryz.underlying90 rfl (by kernel_rfl) _ rfl) rfl ?_
          exact hs.out.fail k5 (by rw [HL.out, if_pos (.inl HB.out)])
        | false =>
          have HB := Hid.mk hrb
          clear hrb
          go_wp2_with fail
          refine (HF.out _).mono ?_
          rintro e w6 ⟨rfl, k6⟩
          have s6 := hs.out.kept0 k6
          clear c0 c1 c2 c3 d0 d1 d2 d3 g0 g1 g2 g3
          obtain ⟨c0, c1, c2, c3⟩ := cells4 s6.lbox
          obtain ⟨d0, d1, d2, d3⟩ := cells4 s6.rbox
          obtain ⟨g0, g1, g2, g3⟩ := free4 s6.rbox
          have S6 := Hid.mk s6
          clear s6
          by_cases hf : h.fr.length ≤ 40
          · have hfd : decide (h.fr.length ≤ 40) = true := by simp [hf]
            rw [hfd]
            go_wp2_with fail
            obtain ⟨W5, e5, k5, hb5, -⟩ := put4 S6.out.rbox (Sv h.fr) (.int .u64 (h.ser : Int)) (.int .i64 h.kind) (.slice a r.1.length c)
            rw [e5]
            clear e5
            refine bodyPost_ret (results_cell_row2 (p := 2) (u := 3) (ty := 90) rfl _ _ w.heap.size 90 _ (0, 0) _ rfl hb5 Tryz.underlying90 rfl (by kernel_rfl) _ rfl) rfl ?_
            exact S6.out.done k5 (by rw [HL.out, if_neg (by rw [HB.out]; simp; omega)])
          · have hfd : decide (h.fr.length ≤ 40) = false := by simp [hf]
            rw [hfd]
            go_wp2_with fail
            obtain ⟨W5, e5, k5, hb5, -⟩ := put4 S6.out.rbox (.string ⟨#[]⟩) (.int .u64 0) (.int .i64 0) (.slice none 0 0)
            rw [e5]
            clear e5
            refine bodyPost_ret (results_cell_row2 (p := 2) (u := 3) (ty := 90) rfl _ _ w.heap.size 90 _ (0, 0) _ rfl hb5 Tryz.underlying90 rfl (by kernel_rfl) _ rfl) rfl ?_
            exact S6.out.fail k5 (by rw [HL.out, if_pos (.inr (by omega))])
end
end Go.Proofs.YtdadloaifebdiaaGreat
/-
  The document's own Reader, as the statements have it.
-/
namespace Go.Proofs.YtdadloaifebdiaaGreat
set_option maxRecDepth 100000
open Go.RowKit
set_option linter.unusedVariables false
set_option maxHeartbeats 400000 in
theorem fail_any (p : Nat) (v : Value) (l : List UInt8) (bad : Bool) (w : World) (hR : IsR 132 w p v l bad) : Calls Tryz.prog 77 #[.pointer (some ⟨p, 0, none⟩)] w fun e w' => e = .returned (.tuple #[]) ∧ Rest 132 w p v [] true w' := by
  obtain ⟨hc0, hc1⟩ := cell_of_two hR.box
  obtain ⟨hf0, hf1⟩ := free_of_two hR.box
  go_enter Tryz.func77, Tryz.ntmps77
  go_wp2
  go_end0
  exact ⟨rfl, rest_bad hR⟩
theorem rnum_bad (l : List UInt8) (bad : Bool) (h : (dec l).2 = 0) : rnum l bad = (0, [], true) := by unfold rnum; rw [if_pos h]
theorem rnum_on (l : List UInt8) (bad : Bool) (n k : Nat) (h : dec l = (n, k)) (hk : k ≠ 0) : rnum l bad = (n, l.drop k, bad) := by unfold rnum; rw [h, if_neg hk]
set_option maxHeartbeats 400000 in
theorem refr_nil (p : Nat) (v : Value) (bad : Bool) (w : World) (hR : IsR 132 w p v [] bad) :
    Calls Tryz.prog 22 #[.pointer (some ⟨p, 0, none⟩)] w fun e w' => e = .returned (.int .u64 0) ∧ Rest 132 w p v [] true w' := by
  have hfail := fail_any p v [] bad w hR
  obtain ⟨hc0, hc1⟩ := cell_of_two hR.box
  obtain ⟨a, cap, rfl, h2, h3⟩ := isR_form hR
  simp only [List.length_nil] at hc0 hfail ⊢
  clear hR
  go_enter Tryz.func22, Tryz.ntmps22
  go_wp2_with (go_at_call 77; refine hfail.mono ?_; rintro e w' ⟨rfl, hL⟩)
  go_ret
  exact ⟨rfl, hL⟩
set_option maxRecDepth 100000 in
set_option maxHeartbeats 400000 in
theorem refr_small (p b o n cap x : Nat) (a1 : Option Addr) (n1 c1 : Nat) (Q : World → Prop) (w : World) (hp : w.cell? ⟨p, 0, none⟩ = some (.slice (some ⟨b, o, none⟩) (n + 1) cap)) (hf : w.frozen? ⟨p, 0, none⟩ = false) (hm : cap ≤ 9223372036854775807) (hn : n + 1 ≤ cap) (hx : x ≤ 247) (hc : w.cell? ⟨b, o, none⟩ = some (.int .u8 (x : Int)))
    (hsl : ∀ W, (Instr.slice 22 (.slice (some ⟨b, o, none⟩) (n + 1) cap) (some (.int .i64 1)) none none).run Tryz.prog W = .ok (.slice a1 n1 c1) W) (hQ : Q (w.setCell ⟨p, 0, none⟩ (.slice a1 n1 c1))) :
    Calls Tryz.prog 22 #[.pointer (some ⟨p, 0, none⟩)] w fun e w' => e = .returned (.int .u64 (x : Int)) ∧ Q w' := by
  have h0 : (((n + 1 : Nat) : Int) == 0) = false := by simp; omega
  have HQ : Hid (Q (w.setCell ⟨p, 0, none⟩ (.slice a1 n1 c1))) := hQ
  clear hQ
  go_enter Tryz.func22, Tryz.ntmps22
  go_wp2
  go_ret
  exact ⟨rfl, HQ.out⟩
set_option maxRecDepth 100000 in
set_option maxHeartbeats 400000 in
theorem refr_short (p b o n cap x : Nat) (Q : World → Prop) (w : World) (hp : w.cell? ⟨p, 0, none⟩ = some (.slice (some ⟨b, o, none⟩) (n + 1) cap)) (hm : cap ≤ 9223372036854775807) (hn : n + 1 ≤ cap) (hx : 247 < x) (hx2 : x < 256) (hs : n < x - 247) (hc : w.cell? ⟨b, o, none⟩ = some (.int .u8 (x : Int)))
    (hfail : Calls Tryz.prog 77 #[.pointer (some ⟨p, 0, none⟩)] w fun e w' => e = .returned (.tuple #[]) ∧ Q w') :
    Calls Tryz.prog 22 #[.pointer (some ⟨p, 0, none⟩)] w fun e w' => e = .returned (.int .u64 0) ∧ Q w' := by
  have h0 : (((n + 1 : Nat) : Int) == 0) = false := by simp; omega
  have h1 : ((n + 1 : Nat) : Int) < 1 + ((x : Int) - 247) := by omega
  go_enter Tryz.func22, Tryz.ntmps22
  go_wp2_with (go_at_call 77; refine hfail.mono ?_; rintro e w' ⟨rfl, hL⟩)
  go_ret
  exact ⟨rfl, hL⟩
set_option maxRecDepth 100000 in
set_option maxHeartbeats 400000 in
theorem refr_zero (p b o n cap x : Nat) (Q : World → Prop) (w : World) (hp : w.cell? ⟨p, 0, none⟩ = some (.slice (some ⟨b, o, none⟩) (n + 2) cap)) (hm : cap ≤ 9223372036854775807) (hn : n + 2 ≤ cap) (hx : 247 < x) (hx2 : x < 256) (hs : x - 247 ≤ n + 1) (hc : w.cell? ⟨b, o, none⟩ = some (.int .u8 (x : Int))) (hc1 : w.cell? ⟨b, o + 1, none⟩ = some (.int .u8 0))
    (hfail : Calls Tryz.prog 77 #[.pointer (some ⟨p, 0, none⟩)] w fun e w' => e = .returned (.tuple #[]) ∧ Q w') :
    Calls Tryz.prog 22 #[.pointer (some ⟨p, 0, none⟩)] w fun e w' => e = .returned (.int .u64 0) ∧ Q w' := by
  have h0 : (((n + 2 : Nat) : Int) == 0) = false := by simp; omega
  have h1 : ¬ ((n + 2 : Nat) : Int) < 1 + ((x : Int) - 247) := by omega
  go_enter Tryz.func22, Tryz.ntmps22
  go_wp2_with (go_at_call 77; refine hfail.mono ?_; rintro e w' ⟨rfl, hL⟩)
  go_ret
  exact ⟨rfl, hL⟩
set_option maxRecDepth 100000 in
set_option maxHeartbeats 2000000 in
theorem refr_loop (p b o n cap x y : Nat) (t : List UInt8) (a1 : Option Addr) (n1 c1 : Nat) (Q1 Q2 : World → Prop) (w : World) (hp : w.cell? ⟨p, 0, none⟩ = some (.slice (some ⟨b, o, none⟩) (n + 2) cap)) (hf : w.frozen? ⟨p, 0, none⟩ = false) (hm : cap ≤ 9223372036854775807) (hn : n + 2 ≤ cap) (hx : 247 < x) (hx2 : x < 256) (hs : x - 247 ≤ n + 1) (hc : w.cell? ⟨b, o, none⟩ = some (.int .u8 (x : Int))) (hc1 : w.cell? ⟨b, o + 1, none⟩ = some (.int .u8 (y : Int))) (hy : 1 ≤ y)
    (ht : t.length = x - 247) (hct : ∀ j u, t[j]? = some u → w.cell? ⟨b, o + (j + 1), none⟩ = some (.int .u8 (u.toNat : Int)))
    (hfail : Calls Tryz.prog 77 #[.pointer (some ⟨p, 0, none⟩)] w fun e w' => e = .returned (.tuple #[]) ∧ Q1 w')
    (hsl : ∀ W, (Instr.slice 22 (.slice (some ⟨b, o, none⟩) (n + 2) cap) (some (.int .i64 (1 + ((x : Int) - 247)))) none none).run Tryz.prog W = .ok (.slice a1 n1 c1) W) (hQ : Q2 (w.setCell ⟨p, 0, none⟩ (.slice a1 n1 c1))) :
    Calls Tryz.prog 22 #[.pointer (some ⟨p, 0, none⟩)] w fun e w' => (worth t ≤ 247 ∧ e = .returned (.int .u64 0) ∧ Q1 w') ∨ (247 < worth t ∧ e = .returned (.int .u64 ((worth t : Nat) : Int)) ∧ Q2 w') := by
  have h0 : (((n + 2 : Nat) : Int) == 0) = false := by simp; omega
  have h1 : ¬ ((n + 2 : Nat) : Int) < 1 + ((x : Int) - 247) := by omega
  have h2 : ((y : Int) == 0) = false := by simp; omega
  have HT : Hid (t.length = x - 247) := ht
  have HQ : Hid (Q2 (w.setCell ⟨p, 0, none⟩ (.slice a1 n1 c1))) := hQ
  clear ht hQ
  go_enter Tryz.func22, Tryz.ntmps22
  go_wp2_with fail
  go_loop [5, 6] (fun c i => ∃ j : Nat, j ≤ x - 247 ∧ i = .int .i64 ((j : Int) + 1) ∧ c = .int .u64 ((worth (t.take j) : Nat) : Int)) (fun _ i => 10 - (intOf i).toNat)
  case atStart => exact ⟨0, Nat.zero_le _, rfl, rfl⟩
  case round =>
    obtain ⟨j, hj, rfl, rfl⟩ := hrel
    by_cases hlt : j < x - 247
    · obtain ⟨u, hu⟩ : ∃ u, t[j]? = some u := ⟨t[j]'(by rw [HT.out]; exact hlt), by simp⟩
      have HU : Hid (worth (t.take (j + 1)) = worth (t.take j) * 256 + u.toNat) := worth_take t j (by rw [HT.out]; exact hlt) u hu
      have hN := worth_take_lt t j (by omega)
      have hcj := hct j u hu
      have hub := u.toNat_lt
      have hor := or_low (worth (t.take j)) u.toNat hN hub
      generalize worth (t.take j) = N at hN hor HU ⊢
      generalize u.toNat = U at hub hor HU hcj
      have hj1 : (j : Int) + 1 ≤ (x : Int) - 247 := by omega
      clear hct hc hc1 hu hsl
      go_wp2
      go_round
      case rel => exact ⟨j + 1, by omega, by go_num, by rw [HU.out]; rfl⟩
      case measure => simp [intOf]; omega
    · have hj1 : ¬ (j : Int) + 1 ≤ (x : Int) - 247 := by omega
      have HW : Hid (worth (t.take j) = worth t) := by show _ = _; rw [List.take_of_length_le (by rw [HT.out]; omega)]
      generalize worth (t.take j) = N at HW ⊢
      clear hct hc hc1
      by_cases h247 : N ≤ 247
      · go_wp2_with (go_at_call 77; refine hfail.mono ?_; rintro e w' ⟨rfl, hL⟩)
        go_ret
        exact .inl ⟨by rw [← HW.out]; exact h247, rfl, hL⟩
      · go_wp2_with fail
        go_ret
        exact .inr ⟨by rw [← HW.out]; omega, by rw [← HW.out]; rfl, HQ.out⟩
end Go.Proofs.YtdadloaifebdiaaGreat
