import Derived.Test.YtdadloaifebdiaaGreatQ07
import Derived.Test.YtdadloaifebdiaaGreatQ08
import Derived.Test.YtdadloaifebdiaaGreatQ27
import Derived.Test.YtdadloaifebdiaaGreatQ34
/-
  The document's Decode of a journal.
-/
namespace Go.Proofs.YtdadloaifebdiaaGreat
set_option maxRecDepth 100000
open Go.RowKit
set_option linter.unusedVariables false
/-- The document's journal at f and its Reader at q, side by side. -/
structure SF_J (w0 w : World) (f q : Nat) (j : Jn) (l : List UInt8) (bad : Bool) : Prop where
  isF : ∃ u, IsF_J w f u j ∧ Fresh w0 u
  rd : ∃ x, IsR 132 w q x l bad ∧ ∀ g, x.ownBlock = some g → g < w0.heap.size
  new : w0.heap.size ≤ q
  newf : w0.heap.size ≤ f
  k : Kept [] w0 w
section
variable {w0 w w' : World} {f q : Nat} {j : Jn} {l : List UInt8} {bad : Bool}
theorem SF_J.kept0 (h : SF_J w0 w f q j l bad) (k : Kept [] w w') : SF_J w0 w' f q j l bad := by
  obtain ⟨u, hF, hfr⟩ := h.isF
  obtain ⟨x, h1, h2⟩ := h.rd
  exact ⟨⟨u, hF.kept0 k, hfr⟩, ⟨x, h1.kept k (by simp) (by simp), h2⟩, h.new, h.newf, h.k.trans k (by simp)⟩
theorem SF_J.read (h : SF_J w0 w f q j l bad) {l' : List UInt8} {bad' : Bool} {x x' : Value} (h1 : IsR 132 w q x l bad) (h2 : ∀ g, x.ownBlock = some g → g < w0.heap.size) (i1 : IsR 132 w' q x' l' bad') (i2 : Kept [q] w w') (i3 : ∀ g, x'.ownBlock = some g → x.ownBlock = some g) : SF_J w0 w' f q j l' bad' := by
  obtain ⟨u, hF, hfr⟩ := h.isF
  refine ⟨⟨u, hF.kept i2 (by simp; exact box_ne hF.box h1.box (by decide)) (fun g hg hm => ?_), hfr⟩, ⟨x', i1, fun g hg => h2 g (i3 g hg)⟩, h.new, h.newf, h.k.trans i2 (fun y hy => by simp at hy; subst hy; exact .inr h.new)⟩
  simp at hm
  subst hm
  exact ownsR_ne hF.own h1.box (by decide) hg
theorem sf_num_J (h : SF_J w0 w f q j l bad) : Calls Tryz.prog 22 #[.pointer (some ⟨q, 0, none⟩)] w fun e w' => e = .returned (.int .u64 ((rnum l bad).1 : Int)) ∧ SF_J w0 w' f q j (rnum l bad).2.1 (rnum l bad).2.2 := by
  obtain ⟨x, h1, h2⟩ := h.rd
  refine (refr_any q x l bad w h1).mono ?_
  rintro e w' ⟨rfl, x', i1, i2, i3⟩
  exact ⟨rfl, h.read h1 h2 i1 i2 i3⟩
theorem sf_int (h : SF_J w0 w f q j l bad) : Calls Tryz.prog 78 #[.pointer (some ⟨q, 0, none⟩)] w fun e w' => e = .returned (Iv (unfold (rnum l bad).1)) ∧ SF_J w0 w' f q j (rnum l bad).2.1 (rnum l bad).2.2 := by
  obtain ⟨x, h1, h2⟩ := h.rd
  refine (refr_int q x l bad w h1).mono ?_
  rintro e w' ⟨rfl, x', i1, i2, i3⟩
  exact ⟨rfl, h.read h1 h2 i1 i2 i3⟩
theorem sf_end (h : SF_J w0 w f q j l bad) : Calls Tryz.prog 28 #[.pointer (some ⟨q, 0, none⟩)] w fun e w' => e = .returned (.bool (!bad && l.isEmpty)) ∧ SF_J w0 w' f q j l bad := by
  obtain ⟨x, h1, h2⟩ := h.rd
  refine (refr_end q x l bad w h1).mono ?_
  rintro e w' ⟨rfl, rfl⟩
  exact ⟨rfl, h⟩
theorem SF_J.turn {j' : Jn} {u u' : Value} (h : SF_J w0 w f q j l bad) (hF : IsF_J w f u j) (hfr : Fresh w0 u) (hF' : IsF_J w' f u' j') (hn : New w u u') (k : Kept (foot f u) w w') : SF_J w0 w' f q j' l bad := by
  obtain ⟨x, h1, h2⟩ := h.rd
  refine ⟨⟨u', hF', fun g hg => ?_⟩, ⟨x, h1.kept k (fun hm => ?_) (fun g hg hm => ?_), h2⟩, h.new, h.newf, h.k.trans k (fun y hy => ?_)⟩
  · rcases hn g hg with h' | h'
    · exact hfr g h'
    · have := h.k.size; omega
  · rcases mem_foot.1 hm with e | e
    · exact box_ne h1.box hF.box (by decide) e
    · exact ownsR_ne hF.own h1.box (by decide) e
  · have hlt := h2 g hg
    rcases mem_foot.1 hm with e | e
    · have := h.newf; omega
    · have := hfr g e; omega
  · rcases mem_foot.1 hy with e | e
    · right; rw [e]; exact h.newf
    · exact .inr (hfr y e)
theorem SF_J.badc (h : SF_J w0 w f q j l bad) : w.cell? ⟨q, 1, none⟩ = some (.bool bad) := by
  obtain ⟨x, h1, -⟩ := h.rd
  exact (cell_of_two h1.box).2
theorem SF_J.ver (h : SF_J w0 w f q j l bad) : w.cell? ⟨f, 9, none⟩ = some (Uv j.ver) := by
  obtain ⟨u, hF, -⟩ := h.isF
  exact hF.ver
end
/-- What the document's Decode answers and leaves. -/
def DecF_J (w : World) (l : List UInt8) (e : Ending) (w' : World) : Prop :=
  (decJn l = none ∧ e = .returned (.tuple #[.pointer none, Iv 2]) ∧ Kept [] w w') ∨ ∃ f j, decJn l = some j ∧ e = .returned (.tuple #[.pointer (some ⟨f, 0, none⟩), Iv 0]) ∧ (∃ u, IsF_J w' f u j ∧ Fresh w u) ∧ Kept [] w w' ∧ w.heap.size ≤ f
section
variable {w : World}
set_option maxHeartbeats 8000000 in
theorem rdecode24 (v : Value) (l : List UInt8) (hr : Reads w v l) (hin : Inside w v) (hl : l.length ≤ 140737488355328) : Calls Tryz.prog 23 #[v] w fun e w' => DecF_J w l e w' := by
  have HN : Hid (∀ W, decJn l = none → Kept [] w W → DecF_J w l (.returned (.tuple #[.pointer none, Iv 2])) W) := fun W h k => .inl ⟨h, rfl, k⟩
  have HY : Hid (∀ W f j, decJn l = some j → (∃ u, IsF_J W f u j ∧ Fresh w u) → Kept [] w W → w.heap.size ≤ f → DecF_J w l (.returned (.tuple #[.pointer (some ⟨f, 0, none⟩), Iv 0])) W) := fun W f j h1 h2 h3 h4 => .inr ⟨f, j, h1, rfl, h2, h3, h4⟩
  generalize DecF_J w l = R at HN HY ⊢
  have HR := Hid.mk (And.intro hr hin)
  clear hr hin
  go_enter Tryz.func23, Tryz.ntmps23
  go_wp2_with fail
  refine (of_any v l w HR.out.1 HR.out.2).mono ?_
  rintro e w1 ⟨q, rfl, hR1, k1, hq1⟩
  have H2 := Hid.mk (refr_any q v l false w1 hR1)
  clear hR1
  go_wp2_with fail
  refine H2.out.mono ?_
  rintro e w2 ⟨rfl, x2, hR2, k2, hi2⟩
  have k02 : Kept [] w w2 := k1.trans k2 (fun x hx => by simp at hx; subst hx; exact .inr hq1)
  have HI := Hid.mk (AInv.start l)
  have hv64 := rnum_lt l false
  obtain ⟨⟨ver, r0, b0⟩, hx⟩ : ∃ x, rnum l false = x := ⟨_, rfl⟩
  rw [hx] at hR2 HI hv64 ⊢
  dsimp only at hR2 HI hv64 ⊢
  have HT4 : Hid (SF_J w (w2.alloc (.cells (cellsF z8 (.slice none 0 0) ver).toArray 100)) w2.heap.size q ⟨padA [], [], ver⟩ r0 b0) := by
    have kA := (Kept.refl [] w2).alloc (.cells (cellsF z8 (.slice none 0 0) ver).toArray 100)
    refine ⟨⟨_, ⟨heap_alloc_new w2 _, OwnsR.nil _ _ _, rfl⟩, fresh_nil _ _⟩, ⟨x2, hR2.kept kA (by simp) (by simp), fun g hg => HR.out.2 g (hi2 g hg)⟩, hq1, k02.size, k02.trans kA (by simp)⟩
  clear hR2 k02 k2 k1 H2 hx hi2
  go_wp2_with fail
  generalize w2.heap.size = f at *
  go_loopw [16] (fun i wr => ∃ (k : Nat) (A : List Int) (r : List UInt8) (bad : Bool), i = .int .i64 (k : Int) ∧ k ≤ 8 ∧ A.length = k ∧ Hid (SF_J w wr f q ⟨padA A, [], ver⟩ r bad ∧ AInv l ver k A r bad)) (fun i _ => 8 - (intOf i).toNat)
  case atStart => exact ⟨0, [], r0, b0, rfl, by omega, rfl, Hid.mk ⟨HT4.out, HI.out⟩⟩
  case round =>
    clear HT4 HI
    obtain ⟨k, A, r, bad, rfl, hk, hAl, hH⟩ := hrel
    obtain ⟨hS, hI⟩ := hH.out
    by_cases hlt : k < 8
    · have hkI : (k : Int) < 8 := by omega
      have hk0 : (0 : Int) ≤ (k : Int) := by omega
      have HC := Hid.mk (sf_int (hS.kept0 (Kept.refl [] wr).drew))
      have HII := Hid.mk (hI.step hlt)
      obtain ⟨⟨x, r2, b2⟩, hx⟩ : ∃ x, rnum r bad = x := ⟨_, rfl⟩
      rw [hx] at HC HII
      dsimp only at HC HII
      generalize unfold x = z at *
      have HST : Hid (∀ W, SF_J w W f q ⟨padA A, [], ver⟩ r2 b2 → (∃ y, W.cell? ⟨f, k, none⟩ = some (Iv y)) ∧ W.frozen? ⟨f, k, none⟩ = false ∧ SF_J w (W.setCell ⟨f, k, none⟩ (Iv z)) f q ⟨padA (A ++ [z]), [], ver⟩ r2 b2) := fun W h => by
        obtain ⟨u, hF, hfr⟩ := h.isF
        have h1 := hF.setA (i := k) hlt z
        dsimp only at h1
        rw [← hAl, padA_more (by omega) z] at h1
        have hb8 := hF.b8
        dsimp only at hb8
        refine ⟨⟨_, hF.cellA (List.getElem?_eq_getElem (i := k) (by dsimp only; rw [hb8]; exact hlt))⟩, hF.free _, ?_⟩
        rw [← hAl]
        exact h.turn hF hfr h1 (New.refl _ _) ((Kept.refl _ W).setCell (p := ⟨f, A.length, none⟩) (.inl (mem_foot.2 (.inl rfl))) _)
      clear hH hS hI hx
      go_wp2_with fail
      go_region_held3 (fun V => True) (trivial) (first | (go_at_call 78; refine HC.out.mono ?_; rintro e w4 ⟨rfl, t4⟩; obtain ⟨⟨y4, c4⟩, f4, t5⟩ := HST.out w4 t4; have HT5 := Hid.mk t5; clear t4 t5))
      clear c4 f4 HC HST
      have HR5 : Hid (SF_J w (w4.setCell ⟨f, k, none⟩ (Iv z)) f q ⟨padA (A ++ [z]), [], ver⟩ r2 b2 ∧ AInv l ver (k + 1) (A ++ [z]) r2 b2) := ⟨HT5.out, HII.out⟩
      go_wp2_with fail
      go_roundw
      case rel => exact ⟨k + 1, A ++ [z], r2, b2, by go_num, by omega, by rw [List.length_append, hAl]; rfl, HR5⟩
      case measure => simp [intOf]; omega
    · obtain rfl : k = 8 := by omega
      have HC := Hid.mk (sf_num_J hS)
      have HII := Hid.mk (BInv.start hI)
      have hn64 := rnum_lt r bad
      obtain ⟨⟨n, r2, b2⟩, hx⟩ : ∃ x, rnum r bad = x := ⟨_, rfl⟩
      rw [hx] at HC HII hn64
      rw [padA_full hAl] at HC
      dsimp only at HC HII hn64
      clear hH hS hI hx
      go_wp2_with fail
      refine HC.out.mono ?_
      rintro e w5 ⟨rfl, t5⟩
      have c5 := t5.badc
      have c6 := t5.ver
      have HT5 := Hid.mk t5
      dsimp only at c6
      clear t5 HC
      cases b2 with
      | true =>
        have HF := Hid.mk (HN.out _ (HII.out.1 rfl) HT5.out.k)
        go_wp2_with fail
        exact HF.out
      | false =>
        by_cases h16 : 16 < n
        · have h16I : (16 : Int) < (n : Int) := by omega
          have HF := Hid.mk (HN.out _ (HII.out.big (.inl h16)) HT5.out.k)
          go_wp2_with fail
          exact HF.out
        · have h16I : ¬ (16 : Int) < (n : Int) := by omega
          by_cases hvn : ver < n
          · have hvI : (ver : Int) < (n : Int) := by omega
            have HF := Hid.mk (HN.out _ (HII.out.big (.inr hvn)) HT5.out.k)
            go_wp2_with fail
            exact HF.out
          · have hvI : ¬ (ver : Int) < (n : Int) := by omega
            have hbig : ¬ (16 < n ∨ ver < n) := by omega
            have HBG := Hid.mk hbig
            clear hbig
            go_wp2_with fail
            clear c5 c6
            clear hvI h16I
            have hn16 : n ≤ 16 := by omega
            go_loopw [46] (fun i wr => ∃ (k : Nat) (E : List Ev) (r : List UInt8) (bad : Bool), i = .int .u64 (k : Int) ∧ k ≤ n ∧ E.length = k ∧ Hid (SF_J w wr f q ⟨A, E, ver⟩ r bad ∧ BInv l ver A n k E r bad)) (fun i _ => n - (intOf i).toNat)
            case atStart => exact ⟨0, [], r2, false, rfl, by omega, rfl, Hid.mk ⟨HT5.out, HII.out⟩⟩
            case round =>
              clear HT5 HII
              obtain ⟨k, E, r, bad, rfl, hk2, hEl, hH⟩ := hrel
              obtain ⟨hS, hI⟩ := hH.out
              have HEL := Hid.mk hEl
              by_cases hlt2 : k < n
              · have hkI2 : (k : Int) < (n : Int) := by omega
                have HC := Hid.mk (sf_num_J hS)
                have HNO : Hid (7 < (rnum r bad).1 → decJn l = none) := fun h => hI.no hlt2 HBG.out h
                have HYS : Hid (¬ 7 < (rnum r bad).1 → BInv l ver A n (k + 1) (E ++ [⟨(rnum r bad).1, unfold (rnum (rnum r bad).2.1 (rnum r bad).2.2).1⟩]) (rnum (rnum r bad).2.1 (rnum r bad).2.2).2.1 (rnum (rnum r bad).2.1 (rnum r bad).2.2).2.2) := fun h => hI.yes hlt2 h
                have hx64 := rnum_lt r bad
                obtain ⟨⟨x, r3, b3⟩, hx⟩ : ∃ x, rnum r bad = x := ⟨_, rfl⟩
                rw [hx] at HC HNO HYS hx64
                dsimp only at HC HNO HYS hx64
                clear hH hS hI hx hEl
                go_wp2_with fail
                refine HC.out.mono ?_
                rintro e w6 ⟨rfl, t6⟩
                clear HC
                have HC := Hid.mk (sf_int t6)
                obtain ⟨⟨y, r4, b4⟩, hy⟩ : ∃ x, rnum r3 b3 = x := ⟨_, rfl⟩
                rw [hy] at HC HYS
                dsimp only at HC HYS
                generalize unfold y = z at *
                clear t6 hy
                go_wp2_with fail
                refine HC.out.mono ?_
                rintro e w7 ⟨rfl, t7⟩
                have c7 := t7.badc
                clear HC
                by_cases h7 : 7 < x
                · have h7I : (7 : Int) < (x : Int) := by omega
                  have HF := Hid.mk (HN.out _ (HNO.out h7) t7.k)
                  clear t7
                  cases b4
                  all_goals
                    go_wp2_with fail
                    exact HF.out
                · have h7I : ¬ (7 : Int) < (x : Int) := by omega
                  have HB := Hid.mk (HYS.out h7)
                  clear HNO HYS
                  cases b4 with
                  | true =>
                    have HF := Hid.mk (HN.out _ (HB.out.1 rfl) t7.k)
                    clear t7
                    go_wp2_with fail
                    exact HF.out
                  | false =>
                    obtain ⟨u, hFu, hfr⟩ := t7.isF
                    obtain ⟨a', c', rfl, -, -⟩ := hFu.form
                    dsimp only at hFu hfr ⊢
                    rw [HEL.out] at hFu hfr
                    obtain ⟨ad, c2, W2, hrun, e8, fz8, hF2, hn2, kk2⟩ := ref_lay hFu HEL.out (by omega) ⟨x, z⟩
                    have S0 := hFu.ev
                    have S1 : (w7.alloc (.cells #[Iv (x : Int), Iv z] 108)).cell? ⟨f, 8, none⟩ = some (.slice a' k c') := ((Kept.refl [] w7).alloc (.cells #[Iv (x : Int), Iv z] 108)).cell_eq hFu.ev
                    have hw : IntKind.i64.wrap (x : Int) = (x : Int) := by rw [IntKind.wrap_i64]; omega
                    have HR8 : Hid (SF_J w (W2.setCell ⟨f, 8, none⟩ (.slice ad (k + 1) c2)) f q ⟨A, E ++ [(⟨x, z⟩ : Ev)], ver⟩ r4 false ∧ BInv l ver A n (k + 1) (E ++ [(⟨x, z⟩ : Ev)]) r4 false) := ⟨t7.turn hFu hfr hF2 hn2 kk2, HB.out⟩
                    dsimp only at hrun
                    clear t7 hFu hfr hF2 hn2 kk2 HB
                    go_wp2_with (at_builtin; refine wpList_append_run 37 37 (.tmp 64) (.tmp 69) rfl (by rfl) _ _ rfl rfl _ _ hrun ?_)
                    go_roundw
                    case rel => exact ⟨k + 1, E ++ [(⟨x, z⟩ : Ev)], r4, false, by go_num, by omega, by rw [List.length_append, HEL.out]; rfl, HR8⟩
                    case measure => simp [intOf]; omega
              · obtain rfl : k = n := by omega
                have hdec := hI.fin HBG.out
                have HE := Hid.mk (sf_end hS)
                clear hH hI hEl
                cases hb : (!bad && r.isEmpty) with
                | true =>
                  rw [hb] at HE hdec
                  have HD : Hid (decJn l = some ⟨A, E, ver⟩) := hdec
                  clear hdec hb hS
                  go_wp2_with fail
                  refine HE.out.mono ?_
                  rintro e w9 ⟨rfl, t9⟩
                  have HF := Hid.mk (HY.out _ _ _ HD.out t9.isF t9.k t9.newf)
                  clear t9 HE
                  go_wp2_with fail
                  exact HF.out
                | false =>
                  rw [hb] at HE hdec
                  have HD : Hid (decJn l = none) := hdec
                  clear hdec hb hS
                  go_wp2_with fail
                  refine HE.out.mono ?_
                  rintro e w9 ⟨rfl, t9⟩
                  have HF := Hid.mk (HN.out _ HD.out t9.k)
                  clear t9 HE
                  go_wp2_with fail
                  exact HF.out
end
end Go.Proofs.YtdadloaifebdiaaGreat
