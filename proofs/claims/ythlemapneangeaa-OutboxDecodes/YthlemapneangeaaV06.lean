import Derived.Test.YthlemapneangeaaV02
import Derived.Test.YthlemapneangeaaV03
import Derived.Test.YthlemapneangeaaV05
/-
  A letter that is being read: the Reader, the letter's own block, and the answer's.
-/
namespace Go.Proofs.Ythlemapneangeaa
set_option maxRecDepth 100000
open Go.RowKit
set_option linter.unusedVariables false
/-- What read answers, and leaves. -/
def LetAt (t : TypeId) (w : World) (p : Nat) (v : Value) (l : List UInt8) (bad : Bool) (e : Ending) (w' : World) : Prop :=
  ∃ (x : Lt) (a : Option Addr) (c : Nat), e = .returned (.tuple #[Lv x a c, .bool (rlet l bad).1.isSome]) ∧ (∀ y, (rlet l bad).1 = some y → x = y) ∧ OwnsJ w' (.slice a x.args.length c) x.args ∧ Fresh w (.slice a x.args.length c) ∧ Rest t w p v (rlet l bad).2.1 (rlet l bad).2.2 w'
/-- While a letter is read: the Reader (at p) has the bytes l left, the letter x stands in block lb, the answer's block rb is as it was laid. -/
structure LS (t : TypeId) (w : World) (p : Nat) (v : Value) (rb lb : Nat) (wi : World) (l : List UInt8) (bad : Bool) (x : Lt) (a : Option Addr) (c : Nat) : Prop where
  rd : ∃ vi, IsR t wi p vi l bad ∧ Within v vi
  lbox : wi.heap[lb]? = some (.cells #[Sv x.fr, .int .u64 (x.ser : Int), .int .i64 x.kind, .slice a x.args.length c] 46 (0, 0))
  rbox : wi.heap[rb]? = some (.cells #[Sv [], .int .u64 0, .int .i64 0, .slice none 0 0] 46 (0, 0))
  own : OwnsJ wi (.slice a x.args.length c) x.args
  fr : ∀ g, (Value.slice a x.args.length c).ownBlock = some g → w.heap.size ≤ g ∧ g ≠ lb ∧ g ≠ rb
  kp : Kept [p] w wi
  hp : p < w.heap.size
  hv : ∀ g, v.ownBlock = some g → g < w.heap.size
  hl : w.heap.size ≤ lb
  hr : w.heap.size ≤ rb
  hlr : lb ≠ rb
section
variable {t : TypeId} {w : World} {p : Nat} {v : Value} {rb lb : Nat} {wi wj : World} {l l' : List UInt8} {bad bad' : Bool} {x : Lt} {a : Option Addr} {c : Nat}
theorem LS.next (s : LS t w p v rb lb wi l bad x a c) {vi : Value} (hV : Within v vi) (h : Rest t wi p vi l' bad' wj) : LS t w p v rb lb wj l' bad' x a c := by
  obtain ⟨vj, hR, k, hW⟩ := h
  have hp := s.hp
  have h1 := s.hl
  have h2 := s.hr
  refine ⟨⟨vj, hR, hV.trans hW⟩, k.keeps s.lbox (by simp; omega), k.keeps s.rbox (by simp; omega), s.own.kept k (fun g hg hm => ?_), s.fr, s.kp.trans k (fun y hy => .inl hy), s.hp, s.hv, s.hl, s.hr, s.hlr⟩
  have := s.fr g hg
  simp at hm
  omega
theorem LS.drew (s : LS t w p v rb lb wi l bad x a c) : LS t w p v rb lb wi.drew l bad x a c := by
  obtain ⟨vi, hR, hV⟩ := s.rd
  exact ⟨⟨vi, ⟨hR.box, hR.reads, hR.apart, hR.none⟩, hV⟩, s.lbox, s.rbox, OwnsJ.kept s.own (Kept.refl [] wi).drew (by simp), s.fr, s.kp.drew, s.hp, s.hv, s.hl, s.hr, s.hlr⟩
/-- A store into the letter's block, or a row of its own that grows. -/
theorem LS.turn {S : List Nat} {x' : Lt} {a' : Option Addr} {c' : Nat} (s : LS t w p v rb lb wi l bad x a c) (k : Kept S wi wj) (hS : ∀ y ∈ S, w.heap.size ≤ y ∧ y ≠ rb) (hl : wj.heap[lb]? = some (.cells #[Sv x'.fr, .int .u64 (x'.ser : Int), .int .i64 x'.kind, .slice a' x'.args.length c'] 46 (0, 0)))
    (ho : OwnsJ wj (.slice a' x'.args.length c') x'.args) (hf : ∀ g, (Value.slice a' x'.args.length c').ownBlock = some g → w.heap.size ≤ g ∧ g ≠ lb ∧ g ≠ rb) : LS t w p v rb lb wj l bad x' a' c' := by
  obtain ⟨vi, hR, hV⟩ := s.rd
  have hp := s.hp
  refine ⟨⟨vi, hR.kept k (fun hm => ?_) (fun g hg hm => ?_), hV⟩, hl, k.keeps s.rbox (fun hm => (hS _ hm).2 rfl), ho, hf, s.kp.trans k (fun y hy => .inr (hS y hy).1), s.hp, s.hv, s.hl, s.hr, s.hlr⟩
  · have := hS _ hm; omega
  · have := s.hv g (hV g hg)
    have := hS _ hm
    omega
theorem LS.kept0 (s : LS t w p v rb lb wi l bad x a c) (k : Kept [] wi wj) : LS t w p v rb lb wj l bad x a c := s.turn k (by simp) (k.keeps s.lbox (by simp)) (s.own.kept k (by simp)) s.fr
theorem LS.set (s : LS t w p v rb lb wi l bad x a c) {x' : Lt} (u : Value) (k : Nat) (ha : x'.args = x.args) (hl : (wi.setCell ⟨lb, k, none⟩ u).heap[lb]? = some (.cells #[Sv x'.fr, .int .u64 (x'.ser : Int), .int .i64 x'.kind, .slice a x'.args.length c] 46 (0, 0))) : LS t w p v rb lb (wi.setCell ⟨lb, k, none⟩ u) l bad x' a c := by
  have kk := (Kept.refl [lb] wi).setCell (p := ⟨lb, k, none⟩) (.inl (by simp)) u
  refine s.turn kk (fun y hy => by simp at hy; subst hy; exact ⟨s.hl, s.hlr⟩) hl ?_ (by rw [ha]; exact s.fr)
  rw [ha]
  exact s.own.kept kk (fun g hg hm => by have := s.fr g hg; simp at hm; omega)
theorem LS.set0 (s : LS t w p v rb lb wi l bad x a c) (fr : List UInt8) : LS t w p v rb lb (wi.setCell ⟨lb, 0, none⟩ (Sv fr)) l bad ⟨fr, x.ser, x.kind, x.args⟩ a c := s.set _ 0 rfl (set4_0 s.lbox)
theorem LS.set1 (s : LS t w p v rb lb wi l bad x a c) (n : Nat) : LS t w p v rb lb (wi.setCell ⟨lb, 1, none⟩ (.int .u64 (n : Int))) l bad ⟨x.fr, n, x.kind, x.args⟩ a c := s.set _ 1 rfl (set4_1 s.lbox)
theorem LS.set2 (s : LS t w p v rb lb wi l bad x a c) (z : Int) : LS t w p v rb lb (wi.setCell ⟨lb, 2, none⟩ (.int .i64 z)) l bad ⟨x.fr, x.ser, z, x.args⟩ a c := s.set _ 2 rfl (set4_2 s.lbox)
/-- 'l.Args = append(l.Args, z)': the run of the append, and what the store leaves. -/
theorem LS.app (s : LS t w p v rb lb wi l bad x a c) (z : Int) (hn : x.args.length ≤ 100000) : ∃ a' c' w2, (Builtin.append_ #[44, 44] 44 #[.slice a x.args.length c, .slice (some ⟨wi.heap.size, 0, none⟩) 1 1]).run Try.prog (wi.alloc (.cells #[.int .i64 z] 2)) = .ok (.slice a' (x.args.length + 1) c') w2
    ∧ w2.cell? ⟨lb, 3, none⟩ = some (.slice a x.args.length c) ∧ w2.frozen? ⟨lb, 3, none⟩ = false ∧ LS t w p v rb lb (w2.setCell ⟨lb, 3, none⟩ (.slice a' (x.args.length + 1) c')) l bad ⟨x.fr, x.ser, x.kind, x.args ++ [z]⟩ a' c' := by
  obtain ⟨a', c', w2, hrun, ho, k, hN⟩ := append_rowR rt23 s.own [.int .i64 z] rfl (fun u hu => by simp at hu; subst hu; rfl) (by rw [CJ_length]; omega) 2 (0, 0) 44
  rw [CJ_length] at *
  have hlb := lt_of_block s.lbox
  have hrb := lt_of_block s.rbox
  have hb := k.keeps s.lbox (fun hm => by rw [Option.mem_toList] at hm; have := s.fr _ hm; omega)
  have hz := k.size
  have hf : ∀ g, (Value.slice a' (x.args.length + 1) c').ownBlock = some g → w.heap.size ≤ g ∧ g ≠ lb ∧ g ≠ rb := fun g hg => by
    rcases hN g hg with h | h
    · exact s.fr g h
    · have := s.kp.size; exact ⟨by omega, by omega, by omega⟩
  refine ⟨a', c', w2, hrun, (cells4 hb).2.2.2, (free4 hb).2.2.2, ?_⟩
  have e : x.args.length + 1 = (x.args ++ [z]).length := by simp
  have k2 := (Kept.refl [lb] w2).setCell (p := ⟨lb, 3, none⟩) (.inl (by simp)) (.slice a' (x.args.length + 1) c')
  have kk : Kept (lb :: (Value.slice a x.args.length c).ownBlock.toList) wi (w2.setCell ⟨lb, 3, none⟩ (.slice a' (x.args.length + 1) c')) := (k.mono (fun y hy => .inl (by simp [hy]))).trans k2 (fun y hy => .inl (by simp at hy; simp [hy]))
  have ho2 : OwnsR 2 1 (w2.setCell ⟨lb, 3, none⟩ (.slice a' (x.args.length + 1) c')) (.slice a' (x.args.length + 1) c') (CJ x.args ++ [[.int .i64 z]]) := OwnsR.kept ho k2 (fun g hg hm => by have := hf g hg; simp at hm; omega)
  refine s.turn kk (fun y hy => ?_) ?_ ?_ ?_
  · simp at hy
    rcases hy with rfl | hy
    · exact ⟨s.hl, s.hlr⟩
    · have := s.fr y hy; exact ⟨this.1, this.2.2⟩
  · have := set4_3 (x := .slice a' (x.args.length + 1) c') hb
    simpa using this
  · have : CJ (x.args ++ [z]) = CJ x.args ++ [[.int .i64 z]] := by simp [CJ]
    unfold OwnsJ
    rw [this, ← e]
    exact ho2
  · rw [← e]
    exact hf
theorem LS.rest (s : LS t w p v rb lb wi l' bad' x a c) (k : Kept [rb] wi wj) : Rest t w p v l' bad' wj ∧ OwnsJ wj (.slice a x.args.length c) x.args ∧ Fresh w (.slice a x.args.length c) := by
  obtain ⟨vi, hR, hV⟩ := s.rd
  have hp := s.hp
  have hr := s.hr
  refine ⟨⟨vi, hR.kept k (by simp; omega) (fun g hg hm => ?_), s.kp.trans k (fun y hy => by simp at hy; subst hy; exact .inr hr), hV⟩, s.own.kept k (fun g hg hm => ?_), fun g hg => (s.fr g hg).1⟩
  · have := s.hv g (hV g hg)
    simp at hm
    omega
  · have := (s.fr g hg).2.2
    simp at hm
    exact this hm
/-- The answer is the letter. -/
theorem LS.done (s : LS t w p v rb lb wi l' bad' x a c) (k : Kept [rb] wi wj) (h : rlet l bad = (some x, l', bad')) : LetAt t w p v l bad (.returned (.tuple #[Lv x a c, .bool true])) wj := by
  obtain ⟨h1, h2, h3⟩ := s.rest k
  unfold LetAt
  rw [h]
  exact ⟨x, a, c, rfl, fun y hy => by simpa using hy, h2, h3, h1⟩
/-- The answer is no letter. -/
theorem LS.fail (s : LS t w p v rb lb wi l' bad' x a c) (k : Kept [rb] wi wj) (h : rlet l bad = (none, l', bad')) : LetAt t w p v l bad (.returned (.tuple #[Lv ⟨[], 0, 0, []⟩ none 0, .bool false])) wj := by
  obtain ⟨h1, h2, h3⟩ := s.rest k
  unfold LetAt
  rw [h]
  exact ⟨_, none, 0, rfl, fun y hy => by simp at hy, OwnsJ.nil wj, fun g hg => by simp [Value.ownBlock] at hg, h1⟩
/-- The answer is what was read, and whether it is a letter. -/
theorem LS.told (s : LS t w p v rb lb wi l' bad' x a c) (k : Kept [rb] wi wj) {o : Option Lt} {b : Bool} (h : rlet l bad = (o, l', bad')) (hb : o.isSome = b) (ho : ∀ y, o = some y → x = y) : LetAt t w p v l bad (.returned (.tuple #[Lv x a c, .bool b])) wj := by
  obtain ⟨h1, h2, h3⟩ := s.rest k
  unfold LetAt
  rw [h]
  exact ⟨x, a, c, by rw [← hb], ho, h2, h3, h1⟩
end
end Go.Proofs.Ythlemapneangeaa
/-
  read: the letter that a Reader's bytes begin with.
-/
namespace Go.Proofs.Ythlemapneangeaa
set_option maxRecDepth 100000
open Go.RowKit
set_option linter.unusedVariables false
section
variable {w : World}
set_option maxRecDepth 100000 in
set_option maxHeartbeats 1000000 in
theorem read34 (p : Nat) (v : Value) (l : List UInt8) (bad : Bool) (hR : IsR 120 w p v l bad) (hv : ∀ g, v.ownBlock = some g → g < w.heap.size) : Calls Try.prog 84 #[.pointer (some ⟨p, 0, none⟩)] w fun e w' => LetAt 120 w p v l bad e w' := by
  go_enter Try.func84, Try.ntmps84
  go_wp2_with fail
  obtain ⟨W0, e0, k0, hz0, hb0, hb1⟩ := box2 w (.cells #[.string ⟨#[]⟩, .int .u64 0, .int .i64 0, .slice none 0 0] 46) (.cells #[.string ⟨#[]⟩, .int .u64 0, .int .i64 0, .slice none 0 0] 46)
  rw [e0]
  clear e0
  have s0 : LS 120 w p v w.heap.size (w.heap.size + 1) W0 l bad ⟨[], 0, 0, []⟩ none 0 := ⟨⟨v, hR.kept k0 (by simp) (by simp), Within.refl v⟩, hb1, hb0, OwnsJ.nil W0, fun g hg => by simp [Value.ownBlock] at hg, k0.mono (by simp), hR.lt, hv, by omega, by omega, by omega⟩
  clear hb0 hb1 k0 hz0
  obtain ⟨vi, hRi, hVi⟩ := s0.rd
  refine (rtext_any p vi l bad W0 hRi).mono ?_
  rintro e w1 ⟨rfl, h1⟩
  have s1 := s0.next hVi h1
  clear h1 hRi hVi s0
  obtain ⟨c0, c1, c2, c3⟩ := cells4 s1.lbox
  obtain ⟨f0, f1, f2, f3⟩ := free4 s1.lbox
  have H1 := Hid.mk (s1.set0 (rtext l bad).1)
  clear s1
  go_wp2_with fail
  obtain ⟨vi, hRi, hVi⟩ := H1.out.rd
  refine (rnum_any p vi _ _ _ hRi).mono ?_
  rintro e w2 ⟨rfl, h2⟩
  have s2 := H1.out.next hVi h2
  clear h2 hRi hVi H1 c0 c1 c2 c3 f0 f1 f2 f3
  obtain ⟨c0, c1, c2, c3⟩ := cells4 s2.lbox
  obtain ⟨f0, f1, f2, f3⟩ := free4 s2.lbox
  have H2 := Hid.mk (s2.set1 (rnum (rtext l bad).2.1 (rtext l bad).2.2).1)
  clear s2
  go_wp2_with fail
  obtain ⟨vi, hRi, hVi⟩ := H2.out.rd
  refine (rint_any p vi _ _ _ hRi).mono ?_
  rintro e w3 ⟨rfl, h3⟩
  have s3 := H2.out.next hVi h3
  clear h3 hRi hVi H2 c0 c1 c2 c3 f0 f1 f2 f3
  obtain ⟨c0, c1, c2, c3⟩ := cells4 s3.lbox
  obtain ⟨f0, f1, f2, f3⟩ := free4 s3.lbox
  have H3 := Hid.mk (s3.set2 (unfold (rnum (rnum (rtext l bad).2.1 (rtext l bad).2.2).2.1 (rnum (rtext l bad).2.1 (rtext l bad).2.2).2.2).1))
  clear s3
  go_wp2_with fail
  obtain ⟨vi, hRi, hVi⟩ := H3.out.rd
  refine (rnum_any p vi _ _ _ hRi).mono ?_
  rintro e w4 ⟨rfl, h4⟩
  have s4 := H3.out.next hVi h4
  clear h4 hRi hVi H3 c0 c1 c2 c3 f0 f1 f2 f3
  change LS 120 w p v w.heap.size (w.heap.size + 1) w4 (rhead l bad).rest (rhead l bad).bad ⟨(rhead l bad).fr, (rhead l bad).ser, (rhead l bad).kind, []⟩ none 0 at s4
  have hN : (rnum (rnum (rnum (rtext l bad).2.1 (rtext l bad).2.2).2.1 (rnum (rtext l bad).2.1 (rtext l bad).2.2).2.2).2.1 (rnum (rnum (rtext l bad).2.1 (rtext l bad).2.2).2.1 (rnum (rtext l bad).2.1 (rtext l bad).2.2).2.2).2.2).1 = (rhead l bad).n := rfl
  rw [hN]
  clear hN
  generalize hh : rhead l bad = h at s4
  have HH := Hid.mk hh
  clear hh
  obtain ⟨c0, c1, c2, c3⟩ := cells4 s4.lbox
  obtain ⟨d0, d1, d2, d3⟩ := cells4 s4.rbox
  obtain ⟨g0, g1, g2, g3⟩ := free4 s4.rbox
  by_cases hn : 4 < h.n
  · have hnI : (4 : Int) < (h.n : Int) := by omega
    go_wp2_with fail
    obtain ⟨W5, e5, k5, hb5, -⟩ := put4 s4.rbox (.string ⟨#[]⟩) (.int .u64 0) (.int .i64 0) (.slice none 0 0)
    rw [e5]
    clear e5
    refine bodyPost_ret (results_cell_row2 (p := 2) (u := 3) (ty := 46) rfl _ _ w.heap.size 46 _ (0, 0) _ rfl hb5 Try.underlying46 rfl (by kernel_rfl) _ rfl) rfl ?_
    exact s4.fail k5 (by unfold rlet; rw [HH.out]; dsimp only; rw [if_pos hn])
  · have hnI : ((4 : Int) < (h.n : Int)) = False := eq_false (by omega)
    clear d0 d1 d2 d3 g0 g1 g2 g3 c0 c1 c2 c3
    go_wp2_with fail
    go_loopw [21] (fun i wr => ∃ (j : Nat) (a : Option Addr) (c : Nat), i = .int .u64 (j : Int) ∧ j ≤ h.n ∧ Hid (LS 120 w p v w.heap.size (w.heap.size + 1) wr (rints j h.rest h.bad).2.1 (rints j h.rest h.bad).2.2 ⟨h.fr, h.ser, h.kind, (rints j h.rest h.bad).1⟩ a c)) (fun i _ => h.n - (intOf i).toNat)
    case atStart => exact ⟨0, none, 0, rfl, by omega, Hid.mk s4⟩
    case round =>
      obtain ⟨j, a, c, rfl, hj, hs⟩ := hrel
      by_cases hlt : j < h.n
      · have hjI : (j : Int) < (h.n : Int) := by omega
        have hjl := rints_length j h.rest h.bad
        have sd := hs.out.drew
        obtain ⟨c0, c1, c2, c3⟩ := cells4 sd.lbox
        obtain ⟨vi, hRi, hVi⟩ := sd.rd
        have hC := rint_any p vi _ _ _ hRi
        have HS := Hid.mk sd
        have HV := Hid.mk hVi
        have HL := Hid.mk hjl
        clear c0 c1 c2 sd hRi hVi hs hjl
        generalize hra : rints j h.rest h.bad = r at hC HS HL c3
        have HR := Hid.mk hra
        clear hra
        go_wp2_with fail
        go_region_law (first | (refine step_append_run 44 (.tmp 24) (.tmp 27) (by rfl) (by rfl) _ _ (by rfl) (by rfl) hrun ?_) | (go_simp; go_at_call 90; refine Calls.mono hC ?_; rintro e w5 ⟨rfl, h5⟩; obtain ⟨a6, c6, w6, hrun, q3, qf, s6⟩ := (HS.out.next HV.out h5).app (unfold (rnum r.2.1 r.2.2).1) (by show r.1.length ≤ 100000; rw [HL.out]; omega); have S6 := Hid.mk s6; clear s6; have q5 := (cells4 (HS.out.next HV.out h5).lbox).2.2.2; have q6 := ((Kept.refl [] w5).alloc (.cells #[.int .i64 (unfold (rnum r.2.1 r.2.2).1)] 2)).cell_eq q5))
        all_goals
          clear hC q3 qf q5 q6 hrun c3
          go_wp2
          go_roundw
          case rel =>
            refine ⟨j + 1, a6, c6, by go_num, by omega, Hid.mk ?_⟩
            rw [rints_snoc, HR.out]
            exact S6.out
          case measure => simp [intOf]; omega
      · obtain rfl : j = h.n := by omega
        have HL : Hid (rlet l bad = if (rints h.n h.rest h.bad).2.2 = true ∨ 40 < h.fr.length then (none, (rints h.n h.rest h.bad).2.1, (rints h.n h.rest h.bad).2.2) else (some ⟨h.fr, h.ser, h.kind, (rints h.n h.rest h.bad).1⟩, (rints h.n h.rest h.bad).2.1, (rints h.n h.rest h.bad).2.2)) := by
          show _ = _
          unfold rlet
          rw [HH.out]
          dsimp only
          rw [if_neg hn]
        have hrl := rints_length h.n h.rest h.bad
        generalize rints h.n h.rest h.bad = r at hs HL hrl
        have hfm : (⟨h.fr, h.ser, h.kind, r.1⟩ : Lt).formed = decide (h.fr.length ≤ 40) := by
          unfold Lt.formed
          dsimp only
          rw [hrl]
          simp
          omega
        have HF := fun W => formed13 (w := W) ⟨h.fr, h.ser, h.kind, r.1⟩ a c
        rw [hfm] at HF
        have HF := Hid.mk HF
        clear hfm
        obtain ⟨vi, hRi, hVi⟩ := hs.out.rd
        have hB := bad_any p vi _ _ _ hRi
        have HV := Hid.mk hVi
        clear hRi hVi
        obtain ⟨c0, c1, c2, c3⟩ := cells4 hs.out.lbox
        obtain ⟨d0, d1, d2, d3⟩ := cells4 hs.out.rbox
        obtain ⟨g0, g1, g2, g3⟩ := free4 hs.out.rbox
        have HR := Hid.mk hrl
        clear hrl
        go_wp2_with fail
        refine Calls.mono hB ?_
        rintro e w5 ⟨rfl, rfl⟩
        cases hrb : r.2.2 with
        | true =>
          have HB := Hid.mk hrb
          go_wp2_with fail
          obtain ⟨W5, e5, k5, hb5, -⟩ := put4 hs.out.rbox (.string ⟨#[]⟩) (.int .u64 0) (.int .i64 0) (.slice none 0 0)
          rw [e5]
          clear e5
          refine bodyPost_ret (results_cell_row2 (p := 2) (u := 3) (ty := 46) rfl _ _ w.heap.size 46 _ (0, 0) _ rfl hb5 Try.underlying46 rfl (by kernel_rfl) _ rfl) rfl ?_
          exact hs.out.fail k5 (by rw [HL.out, if_pos (.inl HB.out)])
        | false =>
          have HB := Hid.mk hrb
          clear hrb
          go_wp2_with fail
          refine (HF.out _).mono ?_
          rintro e w6 ⟨rfl, k6⟩
          have s6 := hs.out.kept0 k6
          clear c0 c1 c2 c3 d0 d1 d2 d3 g0 g1 g2 g3
          obtain ⟨c0, c1, c2, c3⟩ := cells4 s6.lbox
          obtain ⟨d0, d1, d2, d3⟩ := cells4 s6.rbox
          obtain ⟨g0, g1, g2, g3⟩ := free4 s6.rbox
          have S6 := Hid.mk s6
          clear s6
          by_cases hf : h.fr.length ≤ 40
          · have hfd : decide (h.fr.length ≤ 40) = true := by simp [hf]
            rw [hfd]
            go_wp2_with fail
            obtain ⟨W5, e5, k5, hb5, -⟩ := put4 S6.out.rbox (Sv h.fr) (.int .u64 (h.ser : Int)) (.int .i64 h.kind) (.slice a r.1.length c)
            rw [e5]
            clear e5
            refine bodyPost_ret (results_cell_row2 (p := 2) (u := 3) (ty := 46) rfl _ _ w.heap.size 46 _ (0, 0) _ rfl hb5 Try.underlying46 rfl (by kernel_rfl) _ rfl) rfl ?_
            exact S6.out.done k5 (by rw [HL.out, if_neg (by rw [HB.out]; simp; omega)])
          · have hfd : decide (h.fr.length ≤ 40) = false := by simp [hf]
            rw [hfd]
            go_wp2_with fail
            obtain ⟨W5, e5, k5, hb5, -⟩ := put4 S6.out.rbox (.string ⟨#[]⟩) (.int .u64 0) (.int .i64 0) (.slice none 0 0)
            rw [e5]
            clear e5
            refine bodyPost_ret (results_cell_row2 (p := 2) (u := 3) (ty := 46) rfl _ _ w.heap.size 46 _ (0, 0) _ rfl hb5 Try.underlying46 rfl (by kernel_rfl) _ rfl) rfl ?_
            exact S6.out.fail k5 (by rw [HL.out, if_pos (.inr (by omega))])
end
end Go.Proofs.Ythlemapneangeaa
/-
  The document's Take: the letter that a Reader's bytes begin with.
-/
namespace Go.Proofs.Ythlemapneangeaa
set_option maxRecDepth 100000
open Go.RowKit
set_option linter.unusedVariables false
theorem rnum_none {l : List UInt8} {bad : Bool} (h : bad = true → l = []) (hb : (rnum l bad).2.2 = true) : (rnum l bad).2.1 = [] ∧ (rnum l bad).1 = 0 := by
  unfold rnum at hb ⊢
  split at hb
  · rename_i h0
    rw [if_pos h0]
    exact ⟨rfl, rfl⟩
  · rename_i h0
    have := h hb
    subst this
    exact absurd rfl h0
theorem rtext_none {l : List UInt8} {bad : Bool} (h : bad = true → l = []) (hb : (rtext l bad).2.2 = true) : (rtext l bad).2.1 = [] := by
  unfold rtext at hb ⊢
  split at hb
  · rename_i h0
    rw [if_pos h0]
  · rename_i h0
    rw [if_neg h0]
    dsimp only at hb ⊢
    rw [(rnum_none h hb).1]
    simp
theorem rhead_none {l : List UInt8} {bad : Bool} (h : bad = true → l = []) (hb : (rhead l bad).bad = true) : (rhead l bad).n = 0 := by
  have h1 := fun hb => rtext_none (l := l) (bad := bad) h hb
  have h2 := fun hb => (rnum_none h1 hb).1
  have h3 := fun hb => (rnum_none h2 hb).1
  exact (rnum_none h3 hb).2
theorem Kept.cell_ne {b : Nat} {w w' : World} (k : Kept [b] w w') {p : Addr} {u : Value} (h : w.cell? p = some u) (hn : p.block ≠ b) : w'.cell? p = some u := by
  rw [k.cell (World.block_lt_of_cell? _ _ h) (by simpa using hn)]
  exact h
theorem kept4 (w : World) (b : Nat) (x0 x1 x2 x3 : Value) : Kept [b] w ((((w.setCell ⟨b, 0, none⟩ x0).setCell ⟨b, 1, none⟩ x1).setCell ⟨b, 2, none⟩ x2).setCell ⟨b, 3, none⟩ x3) :=
  ((((Kept.refl [b] w).setCell (p := ⟨b, 0, none⟩) (.inl (by simp)) x0).setCell (p := ⟨b, 1, none⟩) (.inl (by simp)) x1).setCell (p := ⟨b, 2, none⟩) (.inl (by simp)) x2).setCell (p := ⟨b, 3, none⟩) (.inl (by simp)) x3
section
variable {w : World}
set_option maxRecDepth 100000 in
set_option maxHeartbeats 1000000 in
theorem take37 (p : Nat) (v : Value) (l : List UInt8) (bad : Bool) (hR : IsR 99 w p v l bad) (hv : ∀ g, v.ownBlock = some g → g < w.heap.size) : Calls Try.prog 78 #[.pointer (some ⟨p, 0, none⟩)] w fun e w' => LetAt 99 w p v l bad e w' := by
  go_enter Try.func78, Try.ntmps78
  go_wp2_with fail
  obtain ⟨W0, e0, k0, hz0, hb0⟩ := box1 w (.cells #[.string ⟨#[]⟩, .int .u64 0, .int .i64 0, .slice none 0 0] 46)
  rw [e0]
  clear e0
  have hp := hR.lt
  refine (refr_text p v l bad W0 (hR.kept k0 (by simp) (by simp))).mono ?_
  rintro e w1 ⟨rfl, v1, hR1, k1, hV1⟩
  go_wp2_with fail
  refine (refr_any p v1 _ _ _ hR1).mono ?_
  rintro e w2 ⟨rfl, h2⟩
  obtain ⟨v2, hR2, k2, hV2⟩ := Rest.trans k1 hV1 h2
  clear hR1 k1 hV1 h2
  go_wp2_with fail
  refine (refr_int p v2 _ _ _ hR2).mono ?_
  rintro e w3 ⟨rfl, h3⟩
  obtain ⟨v3, hR3, k3, hV3⟩ := Rest.trans k2 hV2 h3
  clear hR2 k2 hV2 h3
  have hz3 := k3.size
  go_wp2_with fail
  obtain ⟨W3, e3, kW3, hzW3, hb3⟩ := box1 w3 (.cells #[Sv (rtext l bad).1, .int .u64 ((rnum (rtext l bad).2.1 (rtext l bad).2.2).1 : Int), .int .i64 (unfold (rnum (rnum (rtext l bad).2.1 (rtext l bad).2.2).2.1 (rnum (rtext l bad).2.1 (rtext l bad).2.2).2.2).1), .slice none 0 0] 46)
  rw [e3]
  clear e3
  have s3 : LS 99 w p v w.heap.size w3.heap.size W3 _ _ ⟨(rtext l bad).1, (rnum (rtext l bad).2.1 (rtext l bad).2.2).1, unfold (rnum (rnum (rtext l bad).2.1 (rtext l bad).2.2).2.1 (rnum (rtext l bad).2.1 (rtext l bad).2.2).2.2).1, []⟩ none 0 :=
    ⟨⟨v3, hR3.kept kW3 (by simp) (by simp), hV3⟩, hb3, kW3.keeps (k3.keeps hb0 (by simp; omega)) (by simp), OwnsJ.nil W3, fun g hg => by simp [Value.ownBlock] at hg, ((k0.mono (by simp)).trans k3 (fun y hy => .inl hy)).trans kW3 (by simp), hp, hv, by omega, by omega, by omega⟩
  clear hb0 hb3 kW3 hR3 k3 hV3
  obtain ⟨vi, hRi, hVi⟩ := s3.rd
  refine (refr_any p vi _ _ _ hRi).mono ?_
  rintro e w4 ⟨rfl, h4⟩
  have s4 := s3.next hVi h4
  clear h4 hRi hVi s3
  generalize w3.heap.size = lb at s4
  change LS 99 w p v w.heap.size lb w4 (rhead l bad).rest (rhead l bad).bad ⟨(rhead l bad).fr, (rhead l bad).ser, (rhead l bad).kind, []⟩ none 0 at s4
  have hN : (rnum (rnum (rnum (rtext l bad).2.1 (rtext l bad).2.2).2.1 (rnum (rtext l bad).2.1 (rtext l bad).2.2).2.2).2.1 (rnum (rnum (rtext l bad).2.1 (rtext l bad).2.2).2.1 (rnum (rtext l bad).2.1 (rtext l bad).2.2).2.2).2.2).1 = (rhead l bad).n := rfl
  rw [hN]
  clear hN
  generalize hh : rhead l bad = h at s4
  have HH := Hid.mk hh
  clear hh
  obtain ⟨c0, c1, c2, c3⟩ := cells4 s4.lbox
  obtain ⟨d0, d1, d2, d3⟩ := cells4 s4.rbox
  obtain ⟨g0, g1, g2, g3⟩ := free4 s4.rbox
  obtain ⟨vi, hRi, hVi⟩ := s4.rd
  obtain ⟨b0, b1⟩ := cell_of_two hRi.box
  have HRi := Hid.mk hRi
  clear hRi
  cases hbd : h.bad with
  | true =>
    rw [hbd] at b1
    have HB := Hid.mk hbd
    clear hbd
    go_wp2_with fail
    obtain ⟨W5, e5, k5, hb5, -⟩ := put4 s4.rbox (.string ⟨#[]⟩) (.int .u64 0) (.int .i64 0) (.slice none 0 0)
    rw [e5]
    clear e5
    refine bodyPost_ret (results_cell_row2 (p := 2) (u := 3) (ty := 46) rfl _ _ w.heap.size 46 _ (0, 0) _ rfl hb5 Try.underlying46 rfl (by kernel_rfl) _ rfl) rfl ?_
    have hn0 := rhead_none hR.none (by rw [HH.out]; exact HB.out)
    rw [HH.out] at hn0
    exact s4.fail k5 (by unfold rlet; rw [HH.out]; dsimp only; rw [hn0, if_neg (by omega)]; simp [rints, HB.out])
  | false =>
    rw [hbd] at b1
    by_cases hn : 4 < h.n
    · have hnI : (4 : Int) < (h.n : Int) := by omega
      go_wp2_with fail
      obtain ⟨W5, e5, k5, hb5, -⟩ := put4 s4.rbox (.string ⟨#[]⟩) (.int .u64 0) (.int .i64 0) (.slice none 0 0)
      rw [e5]
      clear e5
      refine bodyPost_ret (results_cell_row2 (p := 2) (u := 3) (ty := 46) rfl _ _ w.heap.size 46 _ (0, 0) _ rfl hb5 Try.underlying46 rfl (by kernel_rfl) _ rfl) rfl ?_
      exact s4.fail k5 (by unfold rlet; rw [HH.out]; dsimp only; rw [if_pos hn])
    · have hnI : ((4 : Int) < (h.n : Int)) = False := eq_false (by omega)
      clear d0 d1 d2 d3 g0 g1 g2 g3 c0 c1 c2 c3 hVi HRi hz3 hzW3
      go_wp2_with fail
      clear b0 b1
      go_loopw [25] (fun i wr => ∃ (j : Nat) (a : Option Addr) (c : Nat), i = .int .u64 (j : Int) ∧ j ≤ h.n ∧ Hid (LS 99 w p v w.heap.size lb wr (rints j h.rest h.bad).2.1 (rints j h.rest h.bad).2.2 ⟨h.fr, h.ser, h.kind, (rints j h.rest h.bad).1⟩ a c)) (fun i _ => h.n - (intOf i).toNat)
      case atStart => exact ⟨0, none, 0, rfl, by omega, Hid.mk s4⟩
      case round =>
        obtain ⟨j, a, c, rfl, hj, hs⟩ := hrel
        by_cases hlt : j < h.n
        · have hjI : (j : Int) < (h.n : Int) := by omega
          have hjl := rints_length j h.rest h.bad
          have sd := hs.out.drew
          obtain ⟨c0, c1, c2, c3⟩ := cells4 sd.lbox
          obtain ⟨vi, hRi, hVi⟩ := sd.rd
          have hC := refr_int p vi _ _ _ hRi
          have HS := Hid.mk sd
          have HV := Hid.mk hVi
          have HL := Hid.mk hjl
          clear c0 c1 c2 sd hRi hVi hs hjl
          generalize hra : rints j h.rest h.bad = r at hC HS HL c3
          have HR := Hid.mk hra
          clear hra
          go_wp2_with fail
          go_region_law (first | (refine step_append_run 44 (.tmp 28) (.tmp 31) (by rfl) (by rfl) _ _ (by rfl) (by rfl) hrun ?_) | (go_simp; go_at_call 86; refine Calls.mono hC ?_; rintro e w5 ⟨rfl, h5⟩; obtain ⟨a6, c6, w6, hrun, q3, qf, s6⟩ := (HS.out.next HV.out h5).app (unfold (rnum r.2.1 r.2.2).1) (by show r.1.length ≤ 100000; rw [HL.out]; omega); have S6 := Hid.mk s6; clear s6; have q5 := (cells4 (HS.out.next HV.out h5).lbox).2.2.2; have q6 := ((Kept.refl [] w5).alloc (.cells #[.int .i64 (unfold (rnum r.2.1 r.2.2).1)] 2)).cell_eq q5))
          all_goals
            clear hC q3 qf q5 q6 hrun c3
            go_wp2
            go_roundw
            case rel =>
              refine ⟨j + 1, a6, c6, by go_num, by omega, Hid.mk ?_⟩
              rw [rints_snoc, HR.out]
              exact S6.out
            case measure => simp [intOf]; omega
        · obtain rfl : j = h.n := by omega
          have HL : Hid (rlet l bad = if (rints h.n h.rest h.bad).2.2 = true ∨ 40 < h.fr.length then (none, (rints h.n h.rest h.bad).2.1, (rints h.n h.rest h.bad).2.2) else (some ⟨h.fr, h.ser, h.kind, (rints h.n h.rest h.bad).1⟩, (rints h.n h.rest h.bad).2.1, (rints h.n h.rest h.bad).2.2)) := by
            show _ = _
            unfold rlet
            rw [HH.out]
            dsimp only
            rw [if_neg hn]
          have hrl := rints_length h.n h.rest h.bad
          generalize rints h.n h.rest h.bad = r at hs HL hrl
          have hfm : (⟨h.fr, h.ser, h.kind, r.1⟩ : Lt).formed = decide (h.fr.length ≤ 40) := by
            unfold Lt.formed
            dsimp only
            rw [hrl]
            simp
            omega
          have HF := fun W => formed14 (w := W) ⟨h.fr, h.ser, h.kind, r.1⟩ a c
          rw [hfm] at HF
          have HF := Hid.mk HF
          clear hfm
          have HB : Hid (∀ W, LS 99 w p v w.heap.size lb W r.2.1 r.2.2 ⟨h.fr, h.ser, h.kind, r.1⟩ a c → (W.cell? ⟨lb, 0, none⟩ = some (Sv h.fr) ∧ W.cell? ⟨lb, 1, none⟩ = some (.int .u64 (h.ser : Int)) ∧ W.cell? ⟨lb, 2, none⟩ = some (.int .i64 h.kind) ∧ W.cell? ⟨lb, 3, none⟩ = some (.slice a r.1.length c) ∧ W.cell? ⟨p, 1, none⟩ = some (.bool r.2.2))) := fun W s => by
            obtain ⟨vi, hRi, -⟩ := s.rd
            obtain ⟨c0, c1, c2, c3⟩ := cells4 s.lbox
            exact ⟨c0, c1, c2, c3, (cell_of_two hRi.box).2⟩
          have sd := hs.out.drew
          have S0 := HB.out _ sd
          have hlr : lb ≠ w.heap.size := sd.hlr
          have hpr : p ≠ w.heap.size := by omega
          obtain ⟨d0, d1, d2, d3⟩ := cells4 sd.rbox
          obtain ⟨g0, g1, g2, g3⟩ := free4 sd.rbox
          have HD := Hid.mk sd
          have HR := Hid.mk hrl
          clear hrl sd
          cases hrb : r.2.2 with
          | true =>
            rw [hrb] at S0
            have HBd := Hid.mk hrb
            clear hrb
            go_wp2_with fail
            have HK : Hid (∀ W0 W, Kept [w.heap.size] W0 W → (W0.cell? ⟨lb, 0, none⟩ = some (Sv h.fr) ∧ W0.cell? ⟨lb, 1, none⟩ = some (.int .u64 (h.ser : Int)) ∧ W0.cell? ⟨lb, 2, none⟩ = some (.int .i64 h.kind) ∧ W0.cell? ⟨lb, 3, none⟩ = some (.slice a r.1.length c) ∧ W0.cell? ⟨p, 1, none⟩ = some (.bool true)) → (W.cell? ⟨lb, 0, none⟩ = some (Sv h.fr) ∧ W.cell? ⟨lb, 1, none⟩ = some (.int .u64 (h.ser : Int)) ∧ W.cell? ⟨lb, 2, none⟩ = some (.int .i64 h.kind) ∧ W.cell? ⟨lb, 3, none⟩ = some (.slice a r.1.length c) ∧ W.cell? ⟨p, 1, none⟩ = some (.bool true))) := fun W0 W k h => by
              obtain ⟨h0, h1, h2, h3, h4⟩ := h
              exact ⟨k.cell_ne h0 hlr, k.cell_ne h1 hlr, k.cell_ne h2 hlr, k.cell_ne h3 hlr, k.cell_ne h4 hpr⟩
            refine wp_region_held_drew (S := fun w' => w'.cell? ⟨lb, 0, none⟩ = some (Sv h.fr) ∧ w'.cell? ⟨lb, 1, none⟩ = some (.int .u64 (h.ser : Int)) ∧ w'.cell? ⟨lb, 2, none⟩ = some (.int .i64 h.kind) ∧ w'.cell? ⟨lb, 3, none⟩ = some (.slice a r.1.length c) ∧ w'.cell? ⟨p, 1, none⟩ = some (.bool true)) (by kernel_rfl) S0 (fun _ => ?_)
            generalize wr.drew = wd at S0 d0 d1 d2 d3 g0 g1 g2 g3 HD ⊢
            refine wpAnyH_take (i := 0) (v := (.agg #[Sv h.fr, .int .u64 (h.ser : Int), .int .i64 h.kind, .slice a r.1.length c])) rfl (by kernel_rfl) (by kernel_rfl) (by kernel_rfl) (fun _ _ _ h => h) (Or.inl ⟨by rfl, fun w hS => by have hS' : w.cell? ⟨lb, 0, none⟩ = some (Sv h.fr) ∧ w.cell? ⟨lb, 1, none⟩ = some (.int .u64 (h.ser : Int)) ∧ w.cell? ⟨lb, 2, none⟩ = some (.int .i64 h.kind) ∧ w.cell? ⟨lb, 3, none⟩ = some (.slice a r.1.length c) ∧ w.cell? ⟨p, 1, none⟩ = some (.bool true) := hS; go_simp⟩) S0 ?_
            go_simp
            refine wpAnyH_take (i := 1) (v := .pointer (some ⟨p, 0, none⟩)) rfl (by kernel_rfl) (by kernel_rfl) (by kernel_rfl) (fun _ _ _ h => h) (Or.inl ⟨by rfl, fun w hS => by have hS' : w.cell? ⟨lb, 0, none⟩ = some (Sv h.fr) ∧ w.cell? ⟨lb, 1, none⟩ = some (.int .u64 (h.ser : Int)) ∧ w.cell? ⟨lb, 2, none⟩ = some (.int .i64 h.kind) ∧ w.cell? ⟨lb, 3, none⟩ = some (.slice a r.1.length c) ∧ w.cell? ⟨p, 1, none⟩ = some (.bool true) := hS; go_simp⟩) S0 ?_
            go_simp
            refine wpAnyH_take (i := 2) (v := .pointer (some ⟨p, 0, none⟩)) rfl (by kernel_rfl) (by kernel_rfl) (by kernel_rfl) (fun _ _ _ h => h) (Or.inl ⟨by rfl, fun w hS => by have hS' : w.cell? ⟨lb, 0, none⟩ = some (Sv h.fr) ∧ w.cell? ⟨lb, 1, none⟩ = some (.int .u64 (h.ser : Int)) ∧ w.cell? ⟨lb, 2, none⟩ = some (.int .i64 h.kind) ∧ w.cell? ⟨lb, 3, none⟩ = some (.slice a r.1.length c) ∧ w.cell? ⟨p, 1, none⟩ = some (.bool true) := hS; go_simp⟩) S0 ?_
            go_simp
            refine wpAnyH_take (i := 3) (v := .pointer (some ⟨p, 1, none⟩)) rfl (by kernel_rfl) (by kernel_rfl) (by kernel_rfl) (fun _ _ _ h => h) (Or.inl ⟨by rfl, fun w hS => by have hS' : w.cell? ⟨lb, 0, none⟩ = some (Sv h.fr) ∧ w.cell? ⟨lb, 1, none⟩ = some (.int .u64 (h.ser : Int)) ∧ w.cell? ⟨lb, 2, none⟩ = some (.int .i64 h.kind) ∧ w.cell? ⟨lb, 3, none⟩ = some (.slice a r.1.length c) ∧ w.cell? ⟨p, 1, none⟩ = some (.bool true) := hS; go_simp⟩) S0 ?_
            go_simp
            refine wpAnyH_take (i := 4) (v := .bool true) rfl (by kernel_rfl) (by kernel_rfl) (by kernel_rfl) (fun _ _ _ h => h) (Or.inl ⟨by rfl, fun w hS => by have hS' : w.cell? ⟨lb, 0, none⟩ = some (Sv h.fr) ∧ w.cell? ⟨lb, 1, none⟩ = some (.int .u64 (h.ser : Int)) ∧ w.cell? ⟨lb, 2, none⟩ = some (.int .i64 h.kind) ∧ w.cell? ⟨lb, 3, none⟩ = some (.slice a r.1.length c) ∧ w.cell? ⟨p, 1, none⟩ = some (.bool true) := hS; go_simp⟩) S0 ?_
            go_simp
            refine wpAnyH_take (i := 5) (v := .bool false) rfl (by kernel_rfl) (by kernel_rfl) (by kernel_rfl) (fun _ _ _ h => h) (Or.inl ⟨by rfl, fun w hS => by have hS' : w.cell? ⟨lb, 0, none⟩ = some (Sv h.fr) ∧ w.cell? ⟨lb, 1, none⟩ = some (.int .u64 (h.ser : Int)) ∧ w.cell? ⟨lb, 2, none⟩ = some (.int .i64 h.kind) ∧ w.cell? ⟨lb, 3, none⟩ = some (.slice a r.1.length c) ∧ w.cell? ⟨p, 1, none⟩ = some (.bool true) := hS; go_simp⟩) S0 ?_
            go_simp
            refine wpAnyH_take (i := 6) (v := .bool false) rfl (by kernel_rfl) (by kernel_rfl) (by kernel_rfl) (fun _ _ _ h => h) (Or.inl ⟨by rfl, fun w hS => by have hS' : w.cell? ⟨lb, 0, none⟩ = some (Sv h.fr) ∧ w.cell? ⟨lb, 1, none⟩ = some (.int .u64 (h.ser : Int)) ∧ w.cell? ⟨lb, 2, none⟩ = some (.int .i64 h.kind) ∧ w.cell? ⟨lb, 3, none⟩ = some (.slice a r.1.length c) ∧ w.cell? ⟨p, 1, none⟩ = some (.bool true) := hS; go_simp⟩) S0 ?_
            go_simp
            refine wpAnyH_take (i := 7) (v := undef) rfl (by kernel_rfl) (by kernel_rfl) (by kernel_rfl) (fun _ _ _ h => h) (Or.inr ⟨by rfl, rfl⟩) S0 ?_
            go_simp
            refine wpAnyH_take (i := 8) (v := undef) rfl (by kernel_rfl) (by kernel_rfl) (by kernel_rfl) (fun _ _ _ h => h) (Or.inr ⟨by rfl, rfl⟩) S0 ?_
            go_simp
            refine wpAnyH_take (i := 9) (v := .bool false) rfl (by kernel_rfl) (by kernel_rfl) (by kernel_rfl) (fun _ _ _ h => h) (Or.inl ⟨by rfl, fun w hS => by have hS' : w.cell? ⟨lb, 0, none⟩ = some (Sv h.fr) ∧ w.cell? ⟨lb, 1, none⟩ = some (.int .u64 (h.ser : Int)) ∧ w.cell? ⟨lb, 2, none⟩ = some (.int .i64 h.kind) ∧ w.cell? ⟨lb, 3, none⟩ = some (.slice a r.1.length c) ∧ w.cell? ⟨p, 1, none⟩ = some (.bool true) := hS; go_simp⟩) S0 ?_
            go_simp
            refine wpAnyH_ready (rs := [10]) (by kernel_rfl) (by simp) (AllReadyH.cons rfl (fun K hK => ?_) AllReadyH.nil)
            go_simp
            refine hK.out _ _ (HK.out _ _ (kept4 _ _ _ _ _ _) S0) (fun _ => ?_)
            clear hK K
            go_simp
            refine wpAnyH_take (i := 11) (v := .bool false) rfl (by kernel_rfl) (by kernel_rfl) (by kernel_rfl) (fun _ _ _ h => h) (Or.inl ⟨by rfl, fun w hS => by have hS' : w.cell? ⟨lb, 0, none⟩ = some (Sv h.fr) ∧ w.cell? ⟨lb, 1, none⟩ = some (.int .u64 (h.ser : Int)) ∧ w.cell? ⟨lb, 2, none⟩ = some (.int .i64 h.kind) ∧ w.cell? ⟨lb, 3, none⟩ = some (.slice a r.1.length c) ∧ w.cell? ⟨p, 1, none⟩ = some (.bool true) := hS; go_simp⟩) (HK.out _ _ (kept4 _ _ _ _ _ _) S0) ?_
            go_simp
            refine wpAnyH_done (by kernel_rfl) ?_ _
            clear d0 d1 d2 d3 g0 g1 g2 g3 S0
            obtain ⟨W5, e5, k5, hb5, -⟩ := put4 HD.out.rbox (Sv h.fr) (.int .u64 (h.ser : Int)) (.int .i64 h.kind) (.slice a r.1.length c)
            rw [e5]
            clear e5
            go_wp2
            refine bodyPost_ret (results_cell_row2 (p := 2) (u := 3) (ty := 46) rfl _ _ w.heap.size 46 _ (0, 0) _ rfl hb5 Try.underlying46 rfl (by kernel_rfl) _ rfl) rfl ?_
            exact HD.out.told k5 (by rw [HL.out, if_pos (.inl HBd.out)]) rfl (fun y hy => by simp at hy)
          | false =>
            rw [hrb] at S0 HB
            have HBd := Hid.mk hrb
            clear hrb
            go_wp2_with fail
            have HK : Hid (∀ W0 W, Kept [w.heap.size] W0 W → (W0.cell? ⟨lb, 0, none⟩ = some (Sv h.fr) ∧ W0.cell? ⟨lb, 1, none⟩ = some (.int .u64 (h.ser : Int)) ∧ W0.cell? ⟨lb, 2, none⟩ = some (.int .i64 h.kind) ∧ W0.cell? ⟨lb, 3, none⟩ = some (.slice a r.1.length c) ∧ W0.cell? ⟨p, 1, none⟩ = some (.bool false)) → (W.cell? ⟨lb, 0, none⟩ = some (Sv h.fr) ∧ W.cell? ⟨lb, 1, none⟩ = some (.int .u64 (h.ser : Int)) ∧ W.cell? ⟨lb, 2, none⟩ = some (.int .i64 h.kind) ∧ W.cell? ⟨lb, 3, none⟩ = some (.slice a r.1.length c) ∧ W.cell? ⟨p, 1, none⟩ = some (.bool false))) := fun W0 W k h => by
              obtain ⟨h0, h1, h2, h3, h4⟩ := h
              exact ⟨k.cell_ne h0 hlr, k.cell_ne h1 hlr, k.cell_ne h2 hlr, k.cell_ne h3 hlr, k.cell_ne h4 hpr⟩
            go_region_held3 (fun w' => w'.cell? ⟨lb, 0, none⟩ = some (Sv h.fr) ∧ w'.cell? ⟨lb, 1, none⟩ = some (.int .u64 (h.ser : Int)) ∧ w'.cell? ⟨lb, 2, none⟩ = some (.int .i64 h.kind) ∧ w'.cell? ⟨lb, 3, none⟩ = some (.slice a r.1.length c) ∧ w'.cell? ⟨p, 1, none⟩ = some (.bool false)) (first | exact S0 | exact S6 | exact HK.out _ _ (kept4 _ _ _ _ _ _) S6) ((go_at_call 87; refine (HF.out _).mono ?_; rintro e w6 ⟨rfl, k6⟩; have s6 := HD.out.kept0 k6; rw [HBd.out] at s6; have S6 := HB.out _ s6; obtain ⟨e0, e1, e2, e3⟩ := cells4 s6.rbox; obtain ⟨x0, x1, x2, x3⟩ := free4 s6.rbox; have H6 := Hid.mk s6; clear s6))
            clear d0 d1 d2 d3 g0 g1 g2 g3 S0 S6 e0 e1 e2 e3 x0 x1 x2 x3
            obtain ⟨W5, e5, k5, hb5, -⟩ := put4 H6.out.rbox (Sv h.fr) (.int .u64 (h.ser : Int)) (.int .i64 h.kind) (.slice a r.1.length c)
            rw [e5]
            clear e5
            go_wp2
            refine bodyPost_ret (results_cell_row2 (p := 2) (u := 3) (ty := 46) rfl _ _ w.heap.size 46 _ (0, 0) _ rfl hb5 Try.underlying46 rfl (by kernel_rfl) _ rfl) rfl ?_
            by_cases hf : 40 < h.fr.length
            · exact H6.out.told k5 (by rw [HL.out, if_pos (.inr hf), HBd.out]) (by simp; omega) (fun y hy => by simp at hy)
            · exact H6.out.told k5 (by rw [HL.out, if_neg (by rw [HBd.out]; simp; omega), HBd.out]) (by simp; omega) (fun y hy => by simpa using hy)
end
end Go.Proofs.Ythlemapneangeaa
/-
  Decode, and the document's.
-/
namespace Go.Proofs.Ythlemapneangeaa
set_option maxRecDepth 100000
open Go.RowKit
set_option linter.unusedVariables false
/-- The letter that bytes are, wholly. -/
def decL (l : List UInt8) : Option Lt := if (!(rlet l false).2.2 && (rlet l false).2.1.isEmpty) = true then (rlet l false).1 else none
theorem decL_ok {l : List UInt8} {x : Lt} (h : decL l = some x) : x.ok ∧ x.formed = true := by
  unfold decL at h
  split at h
  · exact rlet_ok h
  · cases h
theorem formed_le {x : Lt} (h : x.formed = true) : x.fr.length ≤ 40 ∧ x.args.length ≤ 4 := by simpa [Lt.formed] using h
theorem decL_le (l : List UInt8) : ((decL l).getD default).fr.length ≤ 40 ∧ ((decL l).getD default).args.length ≤ 4 := by
  cases h : decL l with
  | none => exact ⟨Nat.zero_le _, Nat.zero_le _⟩
  | some x => exact formed_le (decL_ok h).2
/-- What is encoded is decoded as it was. -/
theorem decL_enc {x : Lt} (hx : x.ok) (hf : x.formed = true) : decL (encL x) = some x := by
  have h := rlet_back x hx hf []
  rw [List.append_nil] at h
  unfold decL
  rw [h]
  rfl
/-- What is decoded has just its own bytes. -/
theorem decL_own {l : List UInt8} {x : Lt} (h : decL l = some x) : encL x = l := by
  unfold decL at h
  split at h
  · rename_i hq
    generalize hr : rlet l false = r at h hq
    obtain ⟨r1, r2, r3⟩ := r
    dsimp only at h hq
    subst h
    simp at hq
    obtain ⟨rfl, rfl⟩ := hq
    have := (rlet_fwd hr).2
    rw [this, List.append_nil]
  · cases h
/-- What Decode answers. -/
def DecAt (w : World) (l : List UInt8) (e : Ending) (w' : World) : Prop :=
  ∃ (a : Option Addr) (c : Nat), e = .returned (.tuple #[Lv ((decL l).getD default) a c, .int .i64 (if (decL l).isSome = true then 0 else 2)]) ∧ OwnsJ w' (.slice a ((decL l).getD default).args.length c) ((decL l).getD default).args ∧ Kept [] w w' ∧ Fresh w (.slice a ((decL l).getD default).args.length c)
theorem decAt_none {w w' : World} {l : List UInt8} (h : decL l = none) (k : Kept [] w w') : DecAt w l (.returned (.tuple #[Lv ⟨[], 0, 0, []⟩ none 0, .int .i64 2])) w' := by
  unfold DecAt
  rw [h]
  exact ⟨none, 0, rfl, OwnsJ.nil w', k, fresh_nil w 0⟩
theorem decAt_some {w w' : World} {l : List UInt8} {x : Lt} {a : Option Addr} {c : Nat} (h : decL l = some x) (ho : OwnsJ w' (.slice a x.args.length c) x.args) (k : Kept [] w w') (hf : Fresh w (.slice a x.args.length c)) : DecAt w l (.returned (.tuple #[Lv x a c, .int .i64 0])) w' := by
  unfold DecAt
  rw [h]
  exact ⟨a, c, rfl, ho, k, hf⟩
section
variable {w : World}
end
end Go.Proofs.Ythlemapneangeaa
/-
  Encode, and the document's Lay and Encode.
-/
namespace Go.Proofs.Ythlemapneangeaa
open Go.RowKit
set_option linter.unusedVariables false
section
variable {w : World}
set_option maxRecDepth 100000 in
set_option maxHeartbeats 1000000 in
theorem encode11 (x : Lt) (a : Option Addr) (c : Nat) (hx : ReadsJ w (.slice a x.args.length c) x.args) (hok : x.ok) :
    Calls Try.prog 38 #[Lv x a c] w fun e w' => TwoB w (encB x) (encE x) e w' := by
  have HX := Hid.mk hx
  clear hx
  have k0 := (Kept.refl [] w).alloc (.cells #[Sv x.fr, .int .u64 (x.ser : Int), .int .i64 x.kind, .slice a x.args.length c] 46)
  have HF : Hid (∀ W, Calls Try.prog 69 #[Lv x a c] W fun e w' => e = .returned (.bool x.formed) ∧ Kept [] W w') := fun W => formed13 x a c
  cases hf : x.formed with
  | false =>
    have hq : encB x = [] ∧ encE x = 1 := by simp [encB, encE, hf]
    rw [hq.1, hq.2]
    clear hq
    rw [hf] at HF
    clear hf
    go_enter Try.func38, Try.ntmps38
    go_wp2_with fail
    refine (HF.out _).mono ?_
    rintro e w1 ⟨rfl, k1⟩
    go_wp2_with fail
    go_ret2
    exact ⟨_, rfl, Owns.nil 5 _, k0.trans k1 (by simp), fresh_nil w 0⟩
  | true =>
    have hq : encB x = encL x ∧ encE x = 0 := by simp [encB, encE, hf]
    rw [hq.1, hq.2]
    clear hq
    have hf2 : x.fr.length ≤ 40 ∧ x.args.length ≤ 4 := by simpa [Lt.formed] using hf
    obtain ⟨hf3, hf4⟩ := hf2
    have hel := encL_length x
    rw [hf] at HF
    clear hf
    go_enter Try.func38, Try.ntmps38
    go_wp2_with fail
    obtain ⟨W0, e0, -, hz0, hb0⟩ := box1 w (.cells #[Sv x.fr, .int .u64 (x.ser : Int), .int .i64 x.kind, .slice a x.args.length c] 46)
    rw [e0] at k0
    rw [e0]
    clear e0
    refine (HF.out _).mono ?_
    rintro e w1 ⟨rfl, k1⟩
    go_wp2_with fail
    refine (newW _).mono ?_
    rintro e w2 ⟨p, rfl, hW2, k2, hp2⟩
    have hb2 := k2.keeps (k1.keeps hb0 (by simp)) (by simp)
    have k02 := (k0.trans k1 (by simp)).trans k2 (by simp)
    obtain ⟨c0, c1, c2, c3⟩ := cells4 hb2
    have hsz := k1.size
    go_wp2_with fail
    refine (lay27 p _ [] x a c hW2 (HX.out.kept k02 (by simp)) (fun hne g hg hm => ?_) hok (by simp; omega)).mono ?_
    · have := HX.out.ltg hne hg
      have := k0.size
      rw [foot_nil] at hm
      simp at hm
      omega
    rintro e w3 ⟨rfl, v3, hW3, k3, n3⟩
    rw [List.nil_append] at hW3
    rw [foot_nil] at k3
    go_wp2_with fail
    refine (wbytes_any p _ _ _ hW3 (by omega)).mono ?_
    rintro e w4 ⟨v4, rfl, hO4, k4, hF4⟩
    go_wp2_with fail
    go_ret2
    have k23 : Kept [] w w3 := k02.trans k3 (by simp; omega)
    refine ⟨v4, rfl, hO4, k23.trans k4 (by simp), fun g hg => ?_⟩
    have := hF4 g hg
    have := k23.size
    omega
end
end Go.Proofs.Ythlemapneangeaa
