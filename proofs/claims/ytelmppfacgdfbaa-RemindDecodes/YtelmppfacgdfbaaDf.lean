/-
  The document's Decode of a queue.
-/
import Derived.Test.YtelmppfacgdfbaaDd
import Derived.Test.YtelmppfacgdfbaaTw
import Derived.BigQuiet
namespace Go.Proofs.Ytelmppfacgdfbaa
set_option maxRecDepth 100000
open Go.RowKit Go.Shelf
set_option linter.unusedVariables false
/-- A world that kept all of another. -/
structure KW (a : World) where
  w : World
  k : Kept [] a w
instance (a : World) : Nonempty (KW a) := ⟨⟨a, Kept.refl [] a⟩⟩
theorem calls_kw {P : Program} {f : FuncId} {args : Array Value} {v : Value} {a : World} {z : KW a} (h : Calls P f args z.w fun e w' => e = .returned v ∧ Kept [] z.w w') : Calls P f args z.w fun e w'' => e = .returned v ∧ ∃ z' : KW a, w'' = z'.w :=
  h.mono fun e w'' h => ⟨h.1, ⟨w'', z.k.trans h.2 (by simp)⟩, rfl⟩
theorem wp_region_kw {P : Program} {C : World → Prop} {id : Nat} {Q : Exit → Act → World → Prop} {a : Act} {w : World} {l : List Oper} (hm : P.follows .mixedOrders = true) (hB : Region.lexB .any l.toArray = true) (hC : C w.drew)
    (h : wpQuiet P l.toArray C (fun a' => ∀ w', C w' → Q .normal a' w') l a) : (Code.region id l.toArray true).wp P Q a w :=
  wp_region_quiet (C := C) hm hB hC (by simpa using h)
/-- The document's queue at f and its Reader at q, side by side. -/
structure SF (w0 w : World) (f q : Nat) (Q : List Rm) (l : List UInt8) (bad : Bool) : Prop where
  isF : ∃ u, IsF w f u Q ∧ Fresh w0 u
  good : GoodQ Q
  rd : ∃ x, IsR 78 w q x l bad ∧ ∀ g, x.ownBlock = some g → g < w0.heap.size
  new : w0.heap.size ≤ q
  newf : w0.heap.size ≤ f
  k : Kept [] w0 w
section
variable {w0 w w' : World} {f q : Nat} {Q : List Rm} {l : List UInt8} {bad : Bool}
theorem SF.kept0 (h : SF w0 w f q Q l bad) (k : Kept [] w w') : SF w0 w' f q Q l bad := by
  obtain ⟨u, hF, hfr⟩ := h.isF
  obtain ⟨x, h1, h2⟩ := h.rd
  exact ⟨⟨u, hF.kept0 k, hfr⟩, h.good, ⟨x, h1.kept k (by simp) (by simp), h2⟩, h.new, h.newf, h.k.trans k (by simp)⟩
theorem SF.read (h : SF w0 w f q Q l bad) {l' : List UInt8} {bad' : Bool} {x x' : Value} (h1 : IsR 78 w q x l bad) (h2 : ∀ g, x.ownBlock = some g → g < w0.heap.size) (i1 : IsR 78 w' q x' l' bad') (i2 : Kept [q] w w') (i3 : ∀ g, x'.ownBlock = some g → x.ownBlock = some g) : SF w0 w' f q Q l' bad' := by
  obtain ⟨u, hF, hfr⟩ := h.isF
  refine ⟨⟨u, hF.kept i2 (by simp; exact box_ne hF.box h1.box (by decide)) (fun g hg hm => ?_), hfr⟩, h.good, ⟨x', i1, fun g hg => h2 g (i3 g hg)⟩, h.new, h.newf, h.k.trans i2 (fun y hy => by simp at hy; subst hy; exact .inr h.new)⟩
  simp at hm
  subst hm
  exact ownsR_ne hF.own h1.box (by decide) hg
theorem sf_text (h : SF w0 w f q Q l bad) : Calls Try.prog 40 #[.pointer (some ⟨q, 0, none⟩)] w fun e w' => e = .returned (Sv (rtext l bad).1) ∧ SF w0 w' f q Q (rtext l bad).2.1 (rtext l bad).2.2 := by
  obtain ⟨x, h1, h2⟩ := h.rd
  refine (refr_text q x l bad w h1).mono ?_
  rintro e w' ⟨rfl, x', i1, i2, i3⟩
  exact ⟨rfl, h.read h1 h2 i1 i2 i3⟩
theorem sf_int (h : SF w0 w f q Q l bad) : Calls Try.prog 41 #[.pointer (some ⟨q, 0, none⟩)] w fun e w' => e = .returned (Iv (unfold (rnum l bad).1)) ∧ SF w0 w' f q Q (rnum l bad).2.1 (rnum l bad).2.2 := by
  obtain ⟨x, h1, h2⟩ := h.rd
  refine (refr_int q x l bad w h1).mono ?_
  rintro e w' ⟨rfl, x', i1, i2, i3⟩
  exact ⟨rfl, h.read h1 h2 i1 i2 i3⟩
theorem sf_end (h : SF w0 w f q Q l bad) : Calls Try.prog 45 #[.pointer (some ⟨q, 0, none⟩)] w fun e w' => e = .returned (.bool (!bad && l.isEmpty)) ∧ SF w0 w' f q Q l bad := by
  obtain ⟨x, h1, h2⟩ := h.rd
  refine (refr_end q x l bad w h1).mono ?_
  rintro e w' ⟨rfl, rfl⟩
  exact ⟨rfl, h⟩
theorem IsF.add {u : Value} (hF : IsF w f u Q) (y : Rm) (hn : Q.length ≤ 1000) (hfr : Fresh w0 u) (hs : w0.heap.size ≤ w.heap.size) : ∃ ad c w', (Builtin.append_ #[33, 33] 33 #[u, .slice (some ⟨w.heap.size, 0, none⟩) 1 1]).run Try.prog (w.alloc (.cells #[Sv y.ac, Sv y.nm, Iv y.due, Iv y.per, Iv y.kind] 52)) = .ok (.slice ad (Q.length + 1) c) w' ∧ w'.cell? ⟨f, 0, none⟩ = some u ∧ w'.frozen? ⟨f, 0, none⟩ = false ∧ IsF (w'.setCell ⟨f, 0, none⟩ (.slice ad (Q.length + 1) c)) f (.slice ad (Q.length + 1) c) (Q ++ [y]) ∧ Fresh w0 (.slice ad (Q.length + 1) c) ∧ Kept (f :: u.ownBlock.toList) w (w'.setCell ⟨f, 0, none⟩ (.slice ad (Q.length + 1) c)) := by
  obtain ⟨ad, c, w', hrun, hO, k, hN⟩ := append_rowR rt33 hF.own (cellsR y) rfl (fun x hx => by simp [cellsR] at hx; rcases hx with rfl | rfl | rfl | rfl | rfl <;> rfl) (by rw [CR_length]; omega) 52 (0, 0) 33
  rw [CR_length] at hrun hO hN
  have hbx := k.keeps hF.box (by rw [Option.mem_toList]; exact ownsR_ne hF.own hF.box (by decide))
  have kp := (Kept.refl [f] w').setCell (p := ⟨f, 0, none⟩) (.inl (by simp)) (.slice ad (Q.length + 1) c)
  have e : CR Q ++ [cellsR y] = CR (Q ++ [y]) := by simp [CR]
  rw [e] at hO
  refine ⟨ad, c, w', hrun, by simp [World.cell?, hbx], by simp [World.frozen?, hbx], ⟨set_at hbx, hO.kept kp (fun g hg hm => ?_)⟩, fun g hg => ?_, (k.mono (fun x hx => .inl (by simp; exact .inr (by rw [Option.mem_toList] at hx; exact hx)))).trans kp (fun x hx => .inl (by simp at hx; subst hx; simp))⟩
  · simp at hm
    subst hm
    exact ownsR_ne hO hbx (by decide) hg
  · rcases hN g hg with h | h
    · exact hfr g h
    · omega
theorem SF.turn {Q' : List Rm} {u u' : Value} (h : SF w0 w f q Q l bad) (hF : IsF w f u Q) (g' : GoodQ Q') (hF' : IsF w' f u' Q') (hfr' : Fresh w0 u') (hfr : Fresh w0 u) (k : Kept (f :: u.ownBlock.toList) w w') : SF w0 w' f q Q' l bad := by
  obtain ⟨x, h1, h2⟩ := h.rd
  refine ⟨⟨u', hF', hfr'⟩, g', ⟨x, h1.kept k (fun hm => ?_) (fun g hg hm => ?_), h2⟩, h.new, h.newf, h.k.trans k (fun y hy => ?_)⟩
  · rcases List.mem_cons.1 hm with e | e
    · exact box_ne h1.box hF.box (by decide) e
    · rw [Option.mem_toList] at e
      exact ownsR_ne hF.own h1.box (by decide) e
  · have hlt := h2 g hg
    rcases List.mem_cons.1 hm with e | e
    · have := h.newf; omega
    · rw [Option.mem_toList] at e
      have := hfr g e; omega
  · rcases List.mem_cons.1 hy with e | e
    · right; rw [e]; exact h.newf
    · rw [Option.mem_toList] at e
      exact .inr (hfr y e)
/-- What the document's Decode answers and leaves. -/
def DecF (w : World) (l : List UInt8) (e : Ending) (w' : World) : Prop :=
  (decQ l = none ∧ e = .returned (.tuple #[.pointer none, Iv 2]) ∧ Kept [] w w') ∨ ∃ f Q, decQ l = some Q ∧ e = .returned (.tuple #[.pointer (some ⟨f, 0, none⟩), Iv 0]) ∧ HasF w' f Q ∧ Kept [] w w' ∧ w.heap.size ≤ f
set_option maxHeartbeats 8000000 in
theorem rdecode15 (v : Value) (l : List UInt8) (hr : Reads w v l) (hin : Inside w v) (hl : l.length ≤ 140737488355328) : Calls Try.prog 15 #[v] w fun e w' => DecF w l e w' := by
  have HN : Hid (∀ W, decQ l = none → Kept [] w W → DecF w l (.returned (.tuple #[.pointer none, Iv 2])) W) := fun W h k => .inl ⟨h, rfl, k⟩
  have HY : Hid (∀ W f Q, decQ l = some Q → HasF W f Q → Kept [] w W → w.heap.size ≤ f → DecF w l (.returned (.tuple #[.pointer (some ⟨f, 0, none⟩), Iv 0])) W) := fun W f Q h1 h2 h3 h4 => .inr ⟨f, Q, h1, rfl, h2, h3, h4⟩
  generalize DecF w l = R at HN HY
  have HR := Hid.mk (And.intro hr hin)
  clear hr hin
  go_enter Try.func15, Try.ntmps15
  go_wp2_with fail
  refine (of_any v l w HR.out.1 HR.out.2).mono ?_
  rintro e w1 ⟨q, rfl, hR1, k1, hq1⟩
  have H2 := Hid.mk (refr_any q v l false w1 hR1)
  clear hR1
  go_wp2_with fail
  refine H2.out.mono ?_
  rintro e w2 ⟨rfl, x2, hR2, k2, hi2⟩
  have k02 : Kept [] w w2 := k1.trans k2 (fun x hx => by simp at hx; subst hx; exact .inr hq1)
  have HX2 : Hid (∀ g, x2.ownBlock = some g → g < w.heap.size) := fun g hg => HR.out.2 g (hi2 g hg)
  have HI := Hid.mk (DInv.start l)
  have hn64 := rnum_lt l false
  have hrl := rnum_rest l false
  obtain ⟨⟨n, r0, b0⟩, hx⟩ : ∃ x, rnum l false = x := ⟨_, rfl⟩
  rw [hx] at hR2 HI hn64 hrl ⊢
  dsimp only at hR2 HI hn64 hrl ⊢
  obtain ⟨-, c1⟩ := cell_of_two hR2.box
  have HR2 := Hid.mk hR2
  have HK2 := Hid.mk k02
  clear hR2 k02 k2 k1 H2 hx hi2
  cases b0 with
  | true =>
    have HF := Hid.mk (HN.out _ (HI.out.1 rfl) HK2.out)
    go_wp2_with fail
    exact HF.out
  | false =>
    by_cases h64 : 64 < n
    · have HF := Hid.mk (HN.out _ ((HI.out.2 rfl).1 h64) HK2.out)
      have g64 : (64 : Int) < (n : Int) := by omega
      go_wp2_with fail
      exact HF.out
    · have g64 : ((64 : Int) < (n : Int)) = False := eq_false (by omega)
      have kA := (Kept.refl [] w2).alloc (.cells #[.slice none 0 0] 35)
      have HS3 : Hid (SF w (w2.alloc (.cells #[.slice none 0 0] 35)) w2.heap.size q [] r0 false) := ⟨⟨.slice none 0 0, ⟨heap_alloc_new w2 _, OwnsR.nil _ _ _⟩, fresh_nil _ _⟩, GoodQ.nil, ⟨x2, HR2.out.kept kA (by simp) (by simp), HX2.out⟩, hq1, HK2.out.size, HK2.out.trans kA (by simp)⟩
      clear kA
      go_wp2_with fail
      generalize w2.heap.size = f at *
      go_loopw [24] (fun i wr => ∃ (j : Nat) (Q : List Rm) (r : List UInt8), i = .int .u64 (j : Int) ∧ j ≤ n ∧ Q.length = j ∧ r.length ≤ l.length ∧ Hid (SF w wr f q Q r false ∧ DInv l n j Q r false)) (fun i _ => n - (intOf i).toNat)
      case atStart => exact ⟨0, [], r0, rfl, by omega, rfl, hrl, Hid.mk ⟨HS3.out, HI.out⟩⟩
      case round =>
        clear HS3 HI HR2 HK2 HX2 c1
        obtain ⟨j, Q, r, rfl, hj, hQl, hrl2, hH⟩ := hrel
        obtain ⟨hS, hI⟩ := hH.out
        by_cases hlt : j < n
        · have hjI : (j : Int) < (n : Int) := by omega
          have hlen := rd5_len r false
          have h6 := rd5_64 r false
          obtain ⟨⟨ac, l1, b1⟩, h1⟩ : ∃ x, rtext r false = x := ⟨_, rfl⟩
          obtain ⟨⟨nm, l2, b2⟩, h2⟩ : ∃ x, rtext l1 b1 = x := ⟨_, rfl⟩
          obtain ⟨⟨c3, l3, b3⟩, h3⟩ : ∃ x, rnum l2 b2 = x := ⟨_, rfl⟩
          obtain ⟨⟨c4, l4, b4⟩, h4⟩ : ∃ x, rnum l3 b3 = x := ⟨_, rfl⟩
          obtain ⟨⟨c5, l5, b5⟩, h5⟩ : ∃ x, rnum l4 b4 = x := ⟨_, rfl⟩
          have hrd : rd5 r false = (⟨ac, nm, unfold c3, unfold c4, unfold c5⟩, l5, b5) := by
            unfold rd5
            simp only [h1, h2, h3, h4, h5]
          have HT1 : Hid (Calls Try.prog 40 #[.pointer (some ⟨q, 0, none⟩)] wr fun e w' => e = .returned (Sv ac) ∧ SF w w' f q Q l1 b1) := by
            have := sf_text hS
            rw [h1] at this
            exact this
          have HT2 : Hid (∀ W, SF w W f q Q l1 b1 → Calls Try.prog 40 #[.pointer (some ⟨q, 0, none⟩)] W fun e w' => e = .returned (Sv nm) ∧ SF w w' f q Q l2 b2) := fun W h => by
            have := sf_text h
            rw [h2] at this
            exact this
          have HT3 : Hid (∀ W, SF w W f q Q l2 b2 → Calls Try.prog 41 #[.pointer (some ⟨q, 0, none⟩)] W fun e w' => e = .returned (Iv (unfold c3)) ∧ SF w w' f q Q l3 b3) := fun W h => by
            have := sf_int h
            rw [h3] at this
            exact this
          have HT4 : Hid (∀ W, SF w W f q Q l3 b3 → Calls Try.prog 41 #[.pointer (some ⟨q, 0, none⟩)] W fun e w' => e = .returned (Iv (unfold c4)) ∧ SF w w' f q Q l4 b4) := fun W h => by
            have := sf_int h
            rw [h4] at this
            exact this
          have HT5 : Hid (∀ W, SF w W f q Q l4 b4 → Calls Try.prog 41 #[.pointer (some ⟨q, 0, none⟩)] W fun e w' => e = .returned (Iv (unfold c5)) ∧ SF w w' f q Q l5 b5) := fun W h => by
            have := sf_int h
            rw [h5] at this
            exact this
          have HNO : Hid (badC Q (rd5 r false).1 → decQ l = none) := fun h => hI.no hlt hQl (.inl h)
          have HYS : Hid (¬ badC Q (rd5 r false).1 → DInv l n (j + 1) (Q ++ [(rd5 r false).1]) (rd5 r false).2.1 (rd5 r false).2.2) := fun h => hI.yes hlt h
          have HBD : Hid ((rd5 r false).2.2 = true → decQ l = none) := fun h => by
            rcases rqs_step (n - (j + 1)) Q r with ⟨e0, e⟩ | ⟨e0, -, e⟩
            · rw [(hI.2 rfl).2 (by omega), show n - j = (n - (j + 1)) + 1 by omega, e]; rfl
            · rw [h] at e0; cases e0
          rw [hrd] at hlen h6 HNO HYS HBD
          dsimp only at hlen h6 HNO HYS HBD
          have hgQ := hS.good
          clear h1 h2 h3 h4 h5 hrd hS hI hH
          generalize unfold c3 = due at *
          generalize unfold c4 = per at *
          generalize unfold c5 = kind at *
          obtain ⟨hal, hnl, hl5⟩ := hlen
          go_wp2_with fail
          refine HT1.out.mono ?_
          rintro e w1 ⟨rfl, t1⟩
          have K1 := Hid.mk (HT2.out _ t1)
          clear t1 HT1 HT2
          go_wp2_with fail
          refine K1.out.mono ?_
          rintro e w2 ⟨rfl, t2⟩
          have K2 := Hid.mk (HT3.out _ t2)
          clear t2 K1 HT3
          go_wp2_with fail
          refine K2.out.mono ?_
          rintro e w3 ⟨rfl, t3⟩
          have K3 := Hid.mk (HT4.out _ t3)
          clear t3 K2 HT4
          go_wp2_with fail
          refine K3.out.mono ?_
          rintro e w4 ⟨rfl, t4⟩
          have K4 := Hid.mk (HT5.out _ t4)
          clear t4 K3 HT5
          go_wp2_with fail
          refine K4.out.mono ?_
          rintro e w5 ⟨rfl, t5⟩
          obtain ⟨W6, e6, k6, hz6, hb6⟩ := box1 w5 (.cells #[Sv ac, Sv nm, Iv due, Iv per, Iv kind] 52)
          have H6 := Hid.mk (t5.kept0 k6)
          obtain ⟨B, hB⟩ : ∃ B, w5.heap.size = B := ⟨_, rfl⟩
          rw [hB] at hb6
          have HB6 := Hid.mk hb6
          have EB := Hid.mk hB
          have E6 := Hid.mk e6
          clear t5 K4 e6 k6 hz6 hb6 hB
          obtain ⟨xq, hRq, -⟩ := H6.out.rd
          obtain ⟨u6, hF6, -⟩ := H6.out.isF
          obtain ⟨au, cu, rfl, hau1, hau2⟩ := rowR_form hF6.row
          rw [hQl] at hF6 hau1
          have HKK : Hid (∀ W, Kept [] W6 W → Kept [] w W) := fun W k => H6.out.k.trans k (by simp)
          cases b5 with
          | true =>
            have HNOO : Hid (decQ l = none) := HBD.out rfl
            have z0 : ∀ z : KW W6, z.w.cell? ⟨q, 1, none⟩ = some (.bool true) := fun z => (cell_of_two (hRq.kept z.k (by simp) (by simp)).box).2
            have z1 : ∀ z : KW W6, z.w.cell? ⟨f, 0, none⟩ = some (.slice au j cu) := fun z => (hF6.kept0 z.k).cell
            have z2 : ∀ z : KW W6, z.w.cell? ⟨B, 0, none⟩ = some (Sv ac) := fun z => (cells5 (z.k.keeps HB6.out (by simp))).1
            have z3 : ∀ z : KW W6, z.w.cell? ⟨B, 1, none⟩ = some (Sv nm) := fun z => (cells5 (z.k.keeps HB6.out (by simp))).2.1
            have z4 : ∀ z : KW W6, z.w.cell? ⟨B, 2, none⟩ = some (Iv due) := fun z => (cells5 (z.k.keeps HB6.out (by simp))).2.2.1
            have z5 : ∀ z : KW W6, z.w.cell? ⟨B, 3, none⟩ = some (Iv per) := fun z => (cells5 (z.k.keeps HB6.out (by simp))).2.2.2.1
            have z6 : ∀ z : KW W6, z.w.cell? ⟨B, 4, none⟩ = some (Iv kind) := fun z => (cells5 (z.k.keeps HB6.out (by simp))).2.2.2.2
            clear HNO HYS HBD hRq hF6 H6
            go_wp2_with fail
            rw [E6.out, EB.out]
            refine wp_region_kw (C := fun W => ∃ z : KW W6, W = z.w) (by kernel_rfl) (by kernel_rfl) ⟨⟨W6.drew, (Kept.refl [] W6).drew⟩, rfl⟩ ?_
            repeat (go_big_quiet_step (fail))
            refine wpQuiet_nil ?_
            intro _ hw'
            obtain ⟨z, hw''⟩ := hw'
            subst hw''
            clear z0 z1 z2 z3 z4 z5 z6
            have HF := Hid.mk (HN.out _ HNOO.out (HKK.out _ z.k))
            go_wp2_with fail
            exact HF.out
          | false =>
            have z0 : ∀ z : KW W6, z.w.cell? ⟨q, 1, none⟩ = some (.bool false) := fun z => (cell_of_two (hRq.kept z.k (by simp) (by simp)).box).2
            have z1 : ∀ z : KW W6, z.w.cell? ⟨f, 0, none⟩ = some (.slice au j cu) := fun z => (hF6.kept0 z.k).cell
            have z2 : ∀ z : KW W6, z.w.cell? ⟨B, 0, none⟩ = some (Sv ac) := fun z => (cells5 (z.k.keeps HB6.out (by simp))).1
            have z3 : ∀ z : KW W6, z.w.cell? ⟨B, 1, none⟩ = some (Sv nm) := fun z => (cells5 (z.k.keeps HB6.out (by simp))).2.1
            have z4 : ∀ z : KW W6, z.w.cell? ⟨B, 2, none⟩ = some (Iv due) := fun z => (cells5 (z.k.keeps HB6.out (by simp))).2.2.1
            have z5 : ∀ z : KW W6, z.w.cell? ⟨B, 3, none⟩ = some (Iv per) := fun z => (cells5 (z.k.keeps HB6.out (by simp))).2.2.2.1
            have z6 : ∀ z : KW W6, z.w.cell? ⟨B, 4, none⟩ = some (Iv kind) := fun z => (cells5 (z.k.keeps HB6.out (by simp))).2.2.2.2
            have HW : Hid (∀ W, Calls Try.prog 42 #[Rv ⟨ac, nm, due, per, kind⟩] W fun e w' => e = .returned (Iv (errR ⟨ac, nm, due, per, kind⟩)) ∧ Kept [] W w') := fun W => wrong42 _ (by dsimp only; omega)
            have HH : Hid (∀ z : KW W6, Calls Try.prog 43 #[.pointer (some ⟨f, 0, none⟩), Sv ac, Sv nm] z.w fun e w' => e = .returned (.bool (hasR Q ac nm)) ∧ Kept [] z.w w') := fun z => (has43 (hF6.kept0 z.k) (by omega) ac nm).mono fun e w' h => ⟨h.1, by rw [← h.2]; exact Kept.refl [] _⟩
            have HFR : Hid (∀ z : KW W6, ReadsR 5 z.w (.slice au j cu) (CR Q)) := fun z => (hF6.kept0 z.k).row
            clear hRq hF6 HBD
            by_cases he : errR ⟨ac, nm, due, per, kind⟩ = 0
            · rw [he] at HW
              cases hh : hasR Q ac nm with
              | true =>
                rw [hh] at HH
                have HNOO : Hid (decQ l = none) := HNO.out (.inr (.inr (.inr (.inr (.inl hh)))))
                clear HNO HYS H6 he hh
                go_wp2_with fail
                rw [E6.out, EB.out]
                refine wp_region_kw (C := fun W => ∃ z : KW W6, W = z.w) (by kernel_rfl) (by kernel_rfl) ⟨⟨W6.drew, (Kept.refl [] W6).drew⟩, rfl⟩ ?_
                repeat (go_big_quiet_step (first | (go_at_call 42; exact calls_kw (HW.out _)) | (go_at_call 43; exact calls_kw (HH.out _))))
                refine wpQuiet_nil ?_
                intro _ hw'
                obtain ⟨z, hw''⟩ := hw'
                subst hw''
                clear z0 z1 z2 z3 z4 z5 z6
                have HF := Hid.mk (HN.out _ HNOO.out (HKK.out _ z.k))
                go_wp2_with fail
                exact HF.out
              | false =>
                rw [hh] at HH
                obtain ⟨e1, e2, e3, e4⟩ := errR_ok he
                by_cases hj0 : j = 0
                · have hQ0 : Q = [] := List.eq_nil_of_length_eq_zero (by omega)
                  have hnb : ¬ badC Q ⟨ac, nm, due, per, kind⟩ := by
                    rintro (h | h | h | h | h | ⟨y, hy, h⟩)
                    · rw [e1] at h; cases h
                    · dsimp only at *; omega
                    · dsimp only at *; omega
                    · dsimp only at *; omega
                    · rw [hh] at h; cases h
                    · rw [hQ0] at hy; cases hy
                  have HDY := Hid.mk (HYS.out hnb)
                  have HGQ : Hid (GoodQ (Q ++ [⟨ac, nm, due, per, kind⟩])) := by
                    have := hgQ.setQ h6
                    rw [(setQ_last hgQ hnb (by omega)).2] at this
                    exact this
                  have g0 : ((0 : Int) < (j : Int)) = False := eq_false (by omega)
                  have g0n : (0 < j) = False := eq_false (by omega)
                  have g0d : decide ((0 : Int) < (j : Int)) = false := decide_eq_false (by omega)
                  clear HNO HYS he hh hQ0 hnb hj0 e1 e2 e3 e4
                  go_wp2_with fail
                  rw [E6.out, EB.out]
                  refine wp_region_kw (C := fun W => ∃ z : KW W6, W = z.w) (by kernel_rfl) (by kernel_rfl) ⟨⟨W6.drew, (Kept.refl [] W6).drew⟩, rfl⟩ ?_
                  repeat (go_big_quiet_step (first | (go_at_call 42; exact calls_kw (HW.out _)) | (go_at_call 43; exact calls_kw (HH.out _))))
                  refine wpQuiet_nil ?_
                  intro _ hw'
                  obtain ⟨z, hw''⟩ := hw'
                  subst hw''
                  clear z0 z1 z2 z3 z4 z5 z6
                  clear g0 g0n g0d
                  have H8 := Hid.mk (H6.out.kept0 z.k)
                  have hb8 := z.k.keeps HB6.out (by simp)
                  generalize z.w = V at H8 hb8 ⊢
                  obtain ⟨u8, hF8, hfr8⟩ := H8.out.isF
                  obtain ⟨a8, c8, rfl, -, -⟩ := rowR_form hF8.row
                  have hF8d := hF8.kept0 (Kept.refl [] V).drew
                  obtain ⟨a9, c9, w9', hrun, q9, f9, hF9, hfr9, k9⟩ := hF8d.add (w0 := w) ⟨ac, nm, due, per, kind⟩ (by omega) hfr8 H8.out.k.size
                  rw [hQl] at hrun hF9 hfr9 k9 q9 hF8d
                  have hrun : (Builtin.append_ #[33, 33] 33 #[.slice a8 j c8, .slice (some ⟨V.heap.size, 0, none⟩) 1 1]).run Try.prog (V.alloc (.cells #[Sv ac, Sv nm, Iv due, Iv per, Iv kind] 52)).drew = .ok (.slice a9 (j + 1) c9) w9' := hrun
                  obtain ⟨y0, y1, y2, y3, y4⟩ := cells5 (w := V.drew) hb8
                  have y5 : V.drew.cell? ⟨f, 0, none⟩ = some (.slice a8 j c8) := hF8d.cell
                  have y6 : (V.alloc (.cells #[Sv ac, Sv nm, Iv due, Iv per, Iv kind] 52)).drew.cell? ⟨f, 0, none⟩ = some (.slice a8 j c8) := ((Kept.refl [] V.drew).alloc (.cells #[Sv ac, Sv nm, Iv due, Iv per, Iv kind] 52)).cell_eq y5
                  have HSF : Hid (SF w (w9'.setCell ⟨f, 0, none⟩ (.slice a9 (j + 1) c9)) f q (Q ++ [⟨ac, nm, due, per, kind⟩]) l5 false) := (H8.out.kept0 (Kept.refl [] V).drew).turn hF8d HGQ.out hF9 hfr9 (fun g hg => hfr8 g (by rw [hQl]; exact hg)) k9
                  clear hF8 hF8d hF9 hfr9 hfr8 k9 hb8 H8 H6
                  go_wp2_with fail
                  go_region_law (first | (refine step_append_run 33 (.tmp 76) (.tmp 78) (by rfl) (by rfl) _ _ (by rfl) (by rfl) hrun ?_))
                  all_goals
                    clear hrun q9 f9 y0 y1 y2 y3 y4 y5 y6
                    go_wp2_with fail
                    go_roundw
                    case rel => exact ⟨j + 1, _, l5, by go_num, by omega, by rw [List.length_append, hQl]; rfl, by omega, Hid.mk ⟨HSF.out, HDY.out⟩⟩
                    case measure => simp [intOf]; omega
                · obtain ⟨m, hm⟩ : ∃ m, j - 1 = m := ⟨_, rfl⟩
                  obtain ⟨x, hx⟩ : ∃ x, Q[m]? = some x := ⟨_, List.getElem?_eq_getElem (by omega)⟩
                  have hgl : Q.getLast? = some x := by rw [List.getLast?_eq_getElem?, hQl, hm]; exact hx
                  obtain ⟨b, o, rfl, -⟩ := rowR_at (HFR.out ⟨W6, Kept.refl [] W6⟩) hx
                  have HE : Hid (∀ z : KW W6, z.w.cell? ⟨b, o + m * 5, none⟩ = some (Sv x.ac) ∧ z.w.cell? ⟨b, o + m * 5 + 1, none⟩ = some (Sv x.nm) ∧ z.w.cell? ⟨b, o + m * 5 + 2, none⟩ = some (Iv x.due) ∧ z.w.cell? ⟨b, o + m * 5 + 3, none⟩ = some (Iv x.per) ∧ z.w.cell? ⟨b, o + m * 5 + 4, none⟩ = some (Iv x.kind)) := fun z => by
                    obtain ⟨b', o', e, d⟩ := rowR_at (HFR.out z) hx
                    injection e with e
                    injection e with e1 e2
                    subst e1 e2
                    exact d
                  have v0 : ∀ z : KW W6, z.w.cell? ⟨b, o + m * 5, none⟩ = some (Sv x.ac) := fun z => (HE.out z).1
                  have v1 : ∀ z : KW W6, z.w.cell? ⟨b, o + m * 5 + 1, none⟩ = some (Sv x.nm) := fun z => (HE.out z).2.1
                  have v2 : ∀ z : KW W6, z.w.cell? ⟨b, o + m * 5 + 2, none⟩ = some (Iv x.due) := fun z => (HE.out z).2.2.1
                  have v3 : ∀ z : KW W6, z.w.cell? ⟨b, o + m * 5 + 3, none⟩ = some (Iv x.per) := fun z => (HE.out z).2.2.2.1
                  have v4 : ∀ z : KW W6, z.w.cell? ⟨b, o + m * 5 + 4, none⟩ = some (Iv x.kind) := fun z => (HE.out z).2.2.2.2
                  have g0 : (0 : Int) < (j : Int) := by omega
                  have g0n : 0 < j := by omega
                  have g0d : decide ((0 : Int) < (j : Int)) = true := decide_eq_true g0
                  have hw1 : IntKind.u64.wrap ((j : Int) - 1) = (m : Int) := by rw [IntKind.wrap_u64]; omega
                  have hw2 : (j : Int) - 1 = (m : Int) := by omega
                  have hw3 : IntKind.u64.wrap (m : Int) = (m : Int) := by rw [IntKind.wrap_u64]; omega
                  have hw4 : IntKind.i64.wrap (m : Int) = (m : Int) := by rw [IntKind.wrap_i64]; omega
                  have hq0 : (0 : Int) ≤ (m : Int) := by omega
                  have hq1 : (m : Int) < (j : Int) := by omega
                  have HL : Hid (∀ W, Calls Try.prog 44 #[Rv x, Rv ⟨ac, nm, due, per, kind⟩] W fun e w' => e = .returned (.bool (decide (LR x ⟨ac, nm, due, per, kind⟩))) ∧ Kept [] W w') := fun W => less44 x _ W
                  by_cases hlr : LR x ⟨ac, nm, due, per, kind⟩
                  · have hnb : ¬ badC Q ⟨ac, nm, due, per, kind⟩ := by
                      rintro (h | h | h | h | h | ⟨y, hy, h⟩)
                      · rw [e1] at h; cases h
                      · dsimp only at *; omega
                      · dsimp only at *; omega
                      · dsimp only at *; omega
                      · rw [hh] at h; cases h
                      · rw [hgl] at hy; injection hy with hy; rw [← hy] at h; exact h hlr
                    have HDY := Hid.mk (HYS.out hnb)
                    have HGQ : Hid (GoodQ (Q ++ [⟨ac, nm, due, per, kind⟩])) := by
                      have := hgQ.setQ h6
                      rw [(setQ_last hgQ hnb (by omega)).2] at this
                      exact this
                    rw [decide_eq_true hlr] at HL
                    clear HNO HYS he hh hnb hj0 e1 e2 e3 e4 hm hx hgl hlr HE HFR
                    go_wp2_with fail
                    rw [E6.out, EB.out]
                    refine wp_region_kw (C := fun W => ∃ z : KW W6, W = z.w) (by kernel_rfl) (by kernel_rfl) ⟨⟨W6.drew, (Kept.refl [] W6).drew⟩, rfl⟩ ?_
                    repeat (go_big_quiet_step (first | (go_at_call 42; exact calls_kw (HW.out _)) | (go_at_call 43; exact calls_kw (HH.out _)) | (go_at_call 44; exact calls_kw (HL.out _))))
                    refine wpQuiet_nil ?_
                    intro _ hw'
                    obtain ⟨z, hw''⟩ := hw'
                    subst hw''
                    clear z0 z1 z2 z3 z4 z5 z6
                    clear v0 v1 v2 v3 v4 g0 g0n g0d hw1 hw2 hw3 hw4 hq0 hq1
                    have H8 := Hid.mk (H6.out.kept0 z.k)
                    have hb8 := z.k.keeps HB6.out (by simp)
                    generalize z.w = V at H8 hb8 ⊢
                    obtain ⟨u8, hF8, hfr8⟩ := H8.out.isF
                    obtain ⟨a8, c8, rfl, -, -⟩ := rowR_form hF8.row
                    have hF8d := hF8.kept0 (Kept.refl [] V).drew
                    obtain ⟨a9, c9, w9', hrun, q9, f9, hF9, hfr9, k9⟩ := hF8d.add (w0 := w) ⟨ac, nm, due, per, kind⟩ (by omega) hfr8 H8.out.k.size
                    rw [hQl] at hrun hF9 hfr9 k9 q9 hF8d
                    have hrun : (Builtin.append_ #[33, 33] 33 #[.slice a8 j c8, .slice (some ⟨V.heap.size, 0, none⟩) 1 1]).run Try.prog (V.alloc (.cells #[Sv ac, Sv nm, Iv due, Iv per, Iv kind] 52)).drew = .ok (.slice a9 (j + 1) c9) w9' := hrun
                    obtain ⟨y0, y1, y2, y3, y4⟩ := cells5 (w := V.drew) hb8
                    have y5 : V.drew.cell? ⟨f, 0, none⟩ = some (.slice a8 j c8) := hF8d.cell
                    have y6 : (V.alloc (.cells #[Sv ac, Sv nm, Iv due, Iv per, Iv kind] 52)).drew.cell? ⟨f, 0, none⟩ = some (.slice a8 j c8) := ((Kept.refl [] V.drew).alloc (.cells #[Sv ac, Sv nm, Iv due, Iv per, Iv kind] 52)).cell_eq y5
                    have HSF : Hid (SF w (w9'.setCell ⟨f, 0, none⟩ (.slice a9 (j + 1) c9)) f q (Q ++ [⟨ac, nm, due, per, kind⟩]) l5 false) := (H8.out.kept0 (Kept.refl [] V).drew).turn hF8d HGQ.out hF9 hfr9 (fun g hg => hfr8 g (by rw [hQl]; exact hg)) k9
                    clear hF8 hF8d hF9 hfr9 hfr8 k9 hb8 H8 H6
                    go_wp2_with fail
                    go_region_law (first | (refine step_append_run 33 (.tmp 76) (.tmp 78) (by rfl) (by rfl) _ _ (by rfl) (by rfl) hrun ?_))
                    all_goals
                      clear hrun q9 f9 y0 y1 y2 y3 y4 y5 y6
                      go_wp2_with fail
                      go_roundw
                      case rel => exact ⟨j + 1, _, l5, by go_num, by omega, by rw [List.length_append, hQl]; rfl, by omega, Hid.mk ⟨HSF.out, HDY.out⟩⟩
                      case measure => simp [intOf]; omega
                  · have HNOO : Hid (decQ l = none) := HNO.out (.inr (.inr (.inr (.inr (.inr ⟨x, hgl, hlr⟩)))))
                    rw [decide_eq_false hlr] at HL
                    clear HNO HYS he hh hj0 e1 e2 e3 e4 hm hx hgl hlr HE HFR H6
                    go_wp2_with fail
                    rw [E6.out, EB.out]
                    refine wp_region_kw (C := fun W => ∃ z : KW W6, W = z.w) (by kernel_rfl) (by kernel_rfl) ⟨⟨W6.drew, (Kept.refl [] W6).drew⟩, rfl⟩ ?_
                    repeat (go_big_quiet_step (first | (go_at_call 42; exact calls_kw (HW.out _)) | (go_at_call 43; exact calls_kw (HH.out _)) | (go_at_call 44; exact calls_kw (HL.out _))))
                    refine wpQuiet_nil ?_
                    intro _ hw'
                    obtain ⟨z, hw''⟩ := hw'
                    subst hw''
                    clear z0 z1 z2 z3 z4 z5 z6
                    have HF := Hid.mk (HN.out _ HNOO.out (HKK.out _ z.k))
                    go_wp2_with fail
                    exact HF.out
            · have hne : (errR ⟨ac, nm, due, per, kind⟩ == 0) = false := by simpa using he
              have hne2 : ¬ errR ⟨ac, nm, due, per, kind⟩ = 0 := he
              have HNOO : Hid (decQ l = none) := HNO.out (err_bad he)
              have hne3 : (errR ⟨ac, nm, due, per, kind⟩ != 0) = true := by simpa using he
              have hne4 : decide (errR ⟨ac, nm, due, per, kind⟩ = 0) = false := decide_eq_false he
              generalize errR ⟨ac, nm, due, per, kind⟩ = er at HW hne hne2 hne3 hne4
              clear HNO HYS H6 he HH
              go_wp2_with fail
              rw [E6.out, EB.out]
              refine wp_region_kw (C := fun W => ∃ z : KW W6, W = z.w) (by kernel_rfl) (by kernel_rfl) ⟨⟨W6.drew, (Kept.refl [] W6).drew⟩, rfl⟩ ?_
              repeat (go_big_quiet_step (first | (go_at_call 42; exact calls_kw (HW.out _))))
              refine wpQuiet_nil ?_
              intro _ hw'
              obtain ⟨z, hw''⟩ := hw'
              subst hw''
              clear z0 z1 z2 z3 z4 z5 z6
              have HF := Hid.mk (HN.out _ HNOO.out (HKK.out _ z.k))
              go_wp2_with fail
              exact HF.out
        · obtain rfl : j = n := by omega
          have hdec := hI.fin (by omega)
          have HE := Hid.mk (sf_end hS)
          clear hH hS hI
          cases hb : (!false && r.isEmpty) with
          | true =>
            rw [hb] at HE hdec
            have HD : Hid (decQ l = some Q) := hdec
            clear hdec hb
            go_wp2_with fail
            refine HE.out.mono ?_
            rintro e w5 ⟨rfl, t5⟩
            have HF := Hid.mk (HY.out _ _ _ HD.out (by obtain ⟨u, hu, -⟩ := t5.isF; exact ⟨u, hu⟩) t5.k t5.newf)
            clear t5 HE
            go_wp2_with fail
            exact HF.out
          | false =>
            rw [hb] at HE hdec
            have HD : Hid (decQ l = none) := hdec
            clear hdec hb
            go_wp2_with fail
            refine HE.out.mono ?_
            rintro e w5 ⟨rfl, t5⟩
            have HF := Hid.mk (HN.out _ HD.out t5.k)
            clear t5 HE
            go_wp2_with fail
            exact HF.out
end
end Go.Proofs.Ytelmppfacgdfbaa
