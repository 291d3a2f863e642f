import Derived.ChangeKeysEq
import Derived.Test.YtngnenbidpojeaaGreatDoorV03
import Derived.Test.YtngnenbidpojeaaGreatDoorV06
import Derived.Test.YtngnenbidpojeaaGreatDoorV18
import Derived.Test.YtngnenbidpojeaaGreatDoorV19
import Derived.Test.YtngnenbidpojeaaGreatDoorV22
import Derived.Test.YtngnenbidpojeaaGreatDoorV24
import Derived.Test.YtngnenbidpojeaaGreatDoorV39
/-
  Decode of a journal.
-/
namespace Go.Proofs.YtngnenbidpojeaaGreatDoor
set_option maxRecDepth 100000
open Go.RowKit
set_option linter.unusedVariables false
/-- A journal's parts at p and a Reader at q. -/
structure St_J (w0 w : World) (p q : Nat) (A : List Int) (E : List Ep) (n : Int) (v : Nat) (l : List UInt8) (bad : Bool) : Prop where
  isP : IsP w p A E n v
  rd : ∃ x, IsR 212 w q x l bad ∧ x.ownBlock ≠ some p
  new : w0.heap.size ≤ q
  newp : w0.heap.size ≤ p
  k : Kept [] w0 w
section
variable {w0 w w' : World} {p q : Nat} {A : List Int} {E : List Ep} {n : Int} {v : Nat} {l : List UInt8} {bad : Bool}
theorem St_J.ne (h : St_J w0 w p q A E n v l bad) : p ≠ q := fun e => by
  obtain ⟨x, h1, -⟩ := h.rd
  exact box_ne h.isP.box h1.box (by decide) e
theorem St_J.kept0 (h : St_J w0 w p q A E n v l bad) (k : Kept [] w w') : St_J w0 w' p q A E n v l bad := by
  obtain ⟨x, h1, h2⟩ := h.rd
  exact ⟨h.isP.kept0 k, ⟨x, h1.kept k (by simp) (by simp), h2⟩, h.new, h.newp, h.k.trans k (by simp)⟩
theorem St_J.read (h : St_J w0 w p q A E n v l bad) {l' : List UInt8} {bad' : Bool} {x x' : Value} (h1 : IsR 212 w q x l bad) (h2 : x.ownBlock ≠ some p) (i1 : IsR 212 w' q x' l' bad') (i2 : Kept [q] w w') (i3 : ∀ g, x'.ownBlock = some g → x.ownBlock = some g) : St_J w0 w' p q A E n v l' bad' :=
  ⟨h.isP.kept i2 (by simp; exact h.ne), ⟨x', i1, fun e => h2 (i3 p e)⟩, h.new, h.newp, h.k.trans i2 (fun y hy => by simp at hy; subst hy; exact .inr h.new)⟩
theorem st_num_J (h : St_J w0 w p q A E n v l bad) : Calls Tryz.prog 71 #[.pointer (some ⟨q, 0, none⟩)] w fun e w' => e = .returned (.int .u64 ((rnum l bad).1 : Int)) ∧ St_J w0 w' p q A E n v (rnum l bad).2.1 (rnum l bad).2.2 := by
  obtain ⟨x, h1, h2⟩ := h.rd
  refine (rnum_any q x l bad w h1).mono ?_
  rintro e w' ⟨rfl, x', i1, i2, i3⟩
  exact ⟨rfl, h.read h1 h2 i1 i2 i3⟩
theorem st_int (h : St_J w0 w p q A E n v l bad) : Calls Tryz.prog 140 #[.pointer (some ⟨q, 0, none⟩)] w fun e w' => e = .returned (Iv (unfold (rnum l bad).1)) ∧ St_J w0 w' p q A E n v (rnum l bad).2.1 (rnum l bad).2.2 := by
  obtain ⟨x, h1, h2⟩ := h.rd
  refine (rint_any q x l bad w h1).mono ?_
  rintro e w' ⟨rfl, x', i1, i2, i3⟩
  exact ⟨rfl, h.read h1 h2 i1 i2 i3⟩
theorem st_end_J (h : St_J w0 w p q A E n v l bad) : Calls Tryz.prog 73 #[.pointer (some ⟨q, 0, none⟩)] w fun e w' => e = .returned (.bool (!bad && l.isEmpty)) ∧ St_J w0 w' p q A E n v l bad := by
  obtain ⟨x, h1, h2⟩ := h.rd
  refine (end_any q x l bad w h1).mono ?_
  rintro e w' ⟨rfl, rfl⟩
  exact ⟨rfl, h⟩
theorem St_J.stored (h : St_J w0 w p q A E n v l bad) {A' : List Int} {E' : List Ep} {n' : Int} {v' : Nat} (hP : IsP w' p A' E' n' v') (k : Kept [p] w w') : St_J w0 w' p q A' E' n' v' l bad := by
  obtain ⟨x, h1, h2⟩ := h.rd
  exact ⟨hP, ⟨x, h1.kept k (by simp; exact fun e => h.ne e.symm) (fun g hg hm => by simp at hm; subst hm; exact h2 hg), h2⟩, h.new, h.newp, h.k.trans k (fun y hy => by simp at hy; subst hy; exact .inr h.newp)⟩
end
/-- What Decode answers and leaves. -/
def DecR (w : World) (l : List UInt8) (e : Ending) (w' : World) : Prop :=
  (decJn l = none ∧ e = .returned (.tuple #[.pointer none, Iv 2]) ∧ Kept [] w w') ∨ ∃ p j, decJn l = some j ∧ e = .returned (.tuple #[.pointer (some ⟨p, 0, none⟩), Iv 0]) ∧ IsJ w' p j ∧ Kept [] w w' ∧ w.heap.size ≤ p
section
variable {w : World}
set_option maxHeartbeats 4000000 in
theorem decode23 (v : Value) (l : List UInt8) (hr : Reads w v l) (hl : l.length ≤ 140737488355328) : Calls Tryz.prog 115 #[v] w fun e w' => DecR w l e w' := by
  have HN : Hid (∀ W, decJn l = none → Kept [] w W → DecR w l (.returned (.tuple #[.pointer none, Iv 2])) W) := fun W h k => .inl ⟨h, rfl, k⟩
  have HY : Hid (∀ W p j, decJn l = some j → IsJ W p j → Kept [] w W → w.heap.size ≤ p → DecR w l (.returned (.tuple #[.pointer (some ⟨p, 0, none⟩), Iv 0])) W) := fun W p j h1 h2 h3 h4 => .inr ⟨p, j, h1, rfl, h2, h3, h4⟩
  generalize DecR w l = R at HN HY ⊢
  have HR := Hid.mk hr
  clear hr
  go_enter Tryz.func115, Tryz.ntmps115
  go_wp2_with fail
  refine (newr_in v l w HR.out hl).mono ?_
  rintro e w1 ⟨q, v1, rfl, hR1, k1, hf1, hq1, hin1⟩
  have H1 := Hid.mk hR1
  have hql := hR1.lt
  clear hR1
  go_wp2_with fail
  refine (new11_J (w := w1)).mono ?_
  rintro e w2 ⟨p, rfl, hJ2, k2, hp2⟩
  have hwp : w.heap.size ≤ p := by have := k1.size; omega
  have h2 : St_J w w2 p q (padA []) (padE []) 0 0 l false := ⟨hJ2.isP, ⟨v1, H1.out.kept k2 (by simp) (by simp), fun e => by have := hin1 p e; omega⟩, hq1, hwp, k1.trans k2 (by simp)⟩
  have H3 := Hid.mk (st_num_J h2)
  clear h2 hJ2 k2 k1 H1 hin1
  go_wp2_with fail
  refine H3.out.mono ?_
  rintro e w3 ⟨rfl, t3⟩
  have HI := Hid.mk (AInv.start l)
  have hv64 := rnum_lt l false
  obtain ⟨⟨ver, r0, b0⟩, hx⟩ : ∃ x, rnum l false = x := ⟨_, rfl⟩
  rw [hx] at t3 HI hv64 ⊢
  dsimp only at t3 HI hv64 ⊢
  have c3 := t3.isP.ver
  have f3 := t3.isP.free 41
  have HT4 : Hid (St_J w (w3.setCell ⟨p, 41, none⟩ (.int .u64 (ver : Int))) p q (padA []) (padE []) 0 ver r0 b0) := t3.stored (t3.isP.setv ver) ((Kept.refl [p] w3).setCell (p := ⟨p, 41, none⟩) (.inl (by simp)) _)
  clear t3 H3 hx
  go_wp2_with fail
  clear c3 f3
  go_loopw [17] (fun i wr => ∃ (k : Nat) (A : List Int) (r : List UInt8) (bad : Bool), i = .int .i64 (k : Int) ∧ k ≤ 8 ∧ A.length = k ∧ Hid (St_J w wr p q (padA A) (padE []) 0 ver r bad ∧ AInv l ver k A r bad)) (fun i _ => 8 - (intOf i).toNat)
  case atStart => exact ⟨0, [], r0, b0, rfl, by omega, rfl, Hid.mk ⟨HT4.out, HI.out⟩⟩
  case round =>
    clear HT4 HI
    obtain ⟨k, A, r, bad, rfl, hk, hAl, hH⟩ := hrel
    obtain ⟨hS, hI⟩ := hH.out
    by_cases hlt : k < 8
    · have hkI : (k : Int) < 8 := by omega
      have hk0 : (0 : Int) ≤ (k : Int) := by omega
      have HC := Hid.mk (st_int (hS.kept0 (Kept.refl [] wr).drew))
      have HII := Hid.mk (hI.step hlt)
      obtain ⟨⟨x, r2, b2⟩, hx⟩ : ∃ x, rnum r bad = x := ⟨_, rfl⟩
      rw [hx] at HC HII
      dsimp only at HC HII
      generalize unfold x = z at *
      have HST : Hid (∀ W, St_J w W p q (padA A) (padE []) 0 ver r2 b2 → (∃ y, W.cell? ⟨p, k, none⟩ = some (Iv y)) ∧ W.frozen? ⟨p, k, none⟩ = false ∧ St_J w (W.setCell ⟨p, k, none⟩ (Iv z)) p q (padA (A ++ [z])) (padE []) 0 ver r2 b2) := fun W h => by
        have h1 := h.isP.setA (i := k) hlt z
        rw [← hAl, padA_more (by omega) z] at h1
        refine ⟨⟨_, h.isP.cellA (List.getElem?_eq_getElem (i := k) (by rw [h.isP.a8]; exact hlt))⟩, h.isP.free _, ?_⟩
        rw [← hAl]
        exact h.stored h1 ((Kept.refl [p] W).setCell (p := ⟨p, A.length, none⟩) (.inl (by simp)) _)
      clear hH hS hI hx
      go_wp2_with fail
      go_region_held3 (fun V => True) (trivial) (first | (go_at_call 140; refine HC.out.mono ?_; rintro e w4 ⟨rfl, t4⟩; obtain ⟨⟨y4, c4⟩, f4, t5⟩ := HST.out w4 t4; have HT5 := Hid.mk t5; clear t4 t5))
      clear c4 f4 HC HST
      have HR5 : Hid (St_J w (w4.setCell ⟨p, k, none⟩ (Iv z)) p q (padA (A ++ [z])) (padE []) 0 ver r2 b2 ∧ AInv l ver (k + 1) (A ++ [z]) r2 b2) := ⟨HT5.out, HII.out⟩
      go_wp2_with fail
      go_roundw
      case rel => exact ⟨k + 1, _, _, _, by go_num, by omega, by rw [List.length_append, hAl]; rfl, HR5⟩
      case measure => simp [intOf]; omega
    · obtain rfl : k = 8 := by omega
      have HC := Hid.mk (st_num_J hS)
      have HII := Hid.mk (BInv.start hI)
      have hn64 := rnum_lt r bad
      obtain ⟨⟨n, r2, b2⟩, hx⟩ : ∃ x, rnum r bad = x := ⟨_, rfl⟩
      rw [hx] at HC HII hn64
      rw [padA_full hAl] at HC
      dsimp only at HC HII hn64
      clear hH hS hI hx
      go_wp2_with fail
      refine HC.out.mono ?_
      rintro e w5 ⟨rfl, t5⟩
      have c5 := t5.isP.ver
      have HT5 := Hid.mk t5
      clear t5 HC
      by_cases hbig : 16 < n ∨ ver < n
      · have hmin : min (16 : Int) (ver : Int) < (n : Int) := by omega
        have HF := Hid.mk (HN.out _ (HII.out.big hbig) HT5.out.k)
        clear hbig
        go_wp2_with fail
        exact HF.out
      · have hmin : ¬ min (16 : Int) (ver : Int) < (n : Int) := by omega
        have hn16 : n ≤ 16 := by omega
        have HBG := Hid.mk hbig
        clear hbig
        go_wp2_with fail
        clear c5 hmin
        go_loopw [38] (fun i wr => ∃ (k : Nat) (E : List Ev) (r : List UInt8) (bad : Bool), i = .int .u64 (k : Int) ∧ k ≤ n ∧ E.length = k ∧ Hid (St_J w wr p q A (padE E) (E.length : Int) ver r bad ∧ BInv l ver A n k E r bad ∧ ∀ e ∈ E, e.r ≤ 7)) (fun i _ => n - (intOf i).toNat)
        case atStart => exact ⟨0, [], r2, b2, rfl, by omega, rfl, Hid.mk ⟨HT5.out, HII.out, by simp⟩⟩
        case round =>
          clear HT5 HII
          obtain ⟨k, E, r, bad, rfl, hk2, hEl, hH⟩ := hrel
          obtain ⟨hS, hI, hE7⟩ := hH.out
          by_cases hlt2 : k < n
          · have hkI2 : (k : Int) < (n : Int) := by omega
            have HC := Hid.mk (st_num_J hS)
            have HNO : Hid (7 < (rnum r bad).1 → decJn l = none) := fun h => hI.no hlt2 HBG.out h
            have HYS : Hid (¬ 7 < (rnum r bad).1 → BInv l ver A n (k + 1) (E ++ [⟨(rnum r bad).1, unfold (rnum (rnum r bad).2.1 (rnum r bad).2.2).1⟩]) (rnum (rnum r bad).2.1 (rnum r bad).2.2).2.1 (rnum (rnum r bad).2.1 (rnum r bad).2.2).2.2) := fun h => hI.yes hlt2 h
            have hx64 := rnum_lt r bad
            obtain ⟨⟨x, r3, b3⟩, hx⟩ : ∃ x, rnum r bad = x := ⟨_, rfl⟩
            rw [hx] at HC HNO HYS hx64
            dsimp only at HC HNO HYS hx64
            have HE7 := Hid.mk hE7
            have HEL := Hid.mk hEl
            clear hH hS hI hx hE7 hEl
            go_wp2_with fail
            refine HC.out.mono ?_
            rintro e w6 ⟨rfl, t6⟩
            clear HC
            by_cases h7 : 7 < x
            · have h7I : (8 : Int) ≤ (x : Int) := by omega
              have HF := Hid.mk (HN.out _ (HNO.out h7) t6.k)
              clear t6
              go_wp2_with fail
              exact HF.out
            · have h7I : ¬ (8 : Int) ≤ (x : Int) := by omega
              have HB := Hid.mk (HYS.out h7)
              have HC := Hid.mk (st_int t6)
              obtain ⟨⟨y, r4, b4⟩, hy⟩ : ∃ x, rnum r3 b3 = x := ⟨_, rfl⟩
              rw [hy] at HC HB
              dsimp only at HC HB
              generalize unfold y = z at *
              have hw : IntKind.i64.wrap (x : Int) = (x : Int) := by rw [IntKind.wrap_i64]; omega
              clear t6 HNO HYS hy
              go_wp2_with fail
              refine HC.out.mono ?_
              rintro e w7 ⟨rfl, t7⟩
              have hJ7 : IsJ w7 p ⟨A, E, ver⟩ := ⟨t7.isP, by show E.length ≤ 16; have := HEL.out; omega⟩
              have HP := Hid.mk (push28 hJ7 HE7.out ⟨x, z⟩)
              rw [pushJ_few (by show E.length < 16; have := HEL.out; omega)] at HP
              have HS : Hid (∀ w8, IsJ w8 p ⟨A, E ++ [(⟨x, z⟩ : Ev)], ver⟩ → Kept [p] w7 w8 → St_J w w8 p q A (padE (E ++ [(⟨x, z⟩ : Ev)])) ((E ++ [(⟨x, z⟩ : Ev)]).length : Int) ver r4 b4) := fun w8 h1 h2 => t7.stored h1.isP h2
              have HP2 : Hid (Calls Tryz.prog 90 #[.pointer (some ⟨p, 0, none⟩), .agg #[Iv (x : Int), Iv z]] w7 fun e w' => e = .returned (.tuple #[]) ∧ IsJ w' p ⟨A, E ++ [(⟨x, z⟩ : Ev)], ver⟩ ∧ Kept [p] w7 w') := HP.out
              clear t7 hJ7 HC HP
              go_wp2_with fail
              refine HP2.out.mono ?_
              rintro e w8 ⟨rfl, h8, k8⟩
              have HR8 : Hid (St_J w w8 p q A (padE (E ++ [(⟨x, z⟩ : Ev)])) ((E ++ [(⟨x, z⟩ : Ev)]).length : Int) ver r4 b4 ∧ BInv l ver A n (k + 1) (E ++ [(⟨x, z⟩ : Ev)]) r4 b4 ∧ ∀ e ∈ E ++ [(⟨x, z⟩ : Ev)], e.r ≤ 7) := ⟨HS.out w8 h8 k8, HB.out, fun e he => by
                rcases List.mem_append.1 he with h | h
                · exact HE7.out e h
                · simp at h; subst h; show x ≤ 7; omega⟩
              clear h8 k8 HP2 HS HB
              go_wp2_with fail
              go_roundw
              case rel => exact ⟨k + 1, E ++ [(⟨x, z⟩ : Ev)], r4, b4, by go_num, by omega, by rw [List.length_append, HEL.out]; rfl, HR8⟩
              case measure => simp [intOf]; omega
          · obtain rfl : k = n := by omega
            have hdec := hI.fin HBG.out
            have HE := Hid.mk (st_end_J hS)
            have HEL := Hid.mk hEl
            clear hH hI hE7 hEl
            cases hb : (!bad && r.isEmpty) with
            | true =>
              rw [hb] at HE hdec
              have HD : Hid (decJn l = some ⟨A, E, ver⟩) := hdec
              clear hdec hb hS
              go_wp2_with fail
              refine HE.out.mono ?_
              rintro e w9 ⟨rfl, t9⟩
              have HF := Hid.mk (HY.out _ _ _ HD.out ⟨t9.isP, by show E.length ≤ 16; have := HEL.out; omega⟩ t9.k t9.newp)
              clear t9 HE
              go_wp2_with fail
              exact HF.out
            | false =>
              rw [hb] at HE hdec
              have HD : Hid (decJn l = none) := hdec
              clear hdec hb hS
              go_wp2_with fail
              refine HE.out.mono ?_
              rintro e w9 ⟨rfl, t9⟩
              have HF := Hid.mk (HN.out _ HD.out t9.k)
              clear t9 HE
              go_wp2_with fail
              exact HF.out
end
end Go.Proofs.YtngnenbidpojeaaGreatDoor
/-
  readParts of an actor.
-/
namespace Go.Proofs.YtngnenbidpojeaaGreatDoor
set_option maxRecDepth 100000
open Go.RowKit
set_option linter.unusedVariables false
/-- What a part's Decode answers: a pointer (or a row) and an error. -/
def PJ (w0 w : World) (X : Value) (e : Int) (o : Option Jn) : Prop := (o = none ∧ X = .pointer none ∧ e = 2) ∨ ∃ pj j, o = some j ∧ X = Ptr pj ∧ e = 0 ∧ IsJ w pj j ∧ w0.heap.size ≤ pj
def PI (w0 w : World) (X : Value) (e : Int) (o : Option (List Lt)) : Prop := (o = none ∧ X = .pointer none ∧ e = 2) ∨ ∃ pi qs, o = some (qs.map (·.x)) ∧ X = Ptr pi ∧ e = 0 ∧ IsB w pi qs ∧ w0.heap.size ≤ pi
def PO (w0 w : World) (X : Value) (e : Int) (o : Option Ob) : Prop := (o = none ∧ X = .pointer none ∧ e = 2) ∨ ∃ po b ys, o = some b ∧ X = Ptr po ∧ e = 0 ∧ IsO w po b.own b.K ys ∧ ys.map ot = b.L ∧ w0.heap.size ≤ po
def PP (w0 w : World) (X : Value) (e : Int) (o : Option (List Lt)) : Prop := e = (if o.isSome = true then 0 else 2) ∧ ∃ w1 qs, OwnL w1 w X qs ∧ qs.map (·.x) = o.getD []
section
variable {w0 w w' : World} {X : Value} {e : Int} {ts : List Nat}
theorem PJ.turn {o : Option Jn} (h : PJ w0 w X e o) (T : TT ts w0 w w') (ht : ∀ x ∈ ts, x ∈ [212, 66, 215, 9999]) : PJ w0 w' X e o := by
  rcases h with h | ⟨pj, j, h1, h2, h3, h4, h5⟩
  · exact .inl h
  · exact .inr ⟨pj, j, h1, h2, h3, T.isJ h4 (fun hm => by have := ht _ hm; revert this; decide), h5⟩
theorem PI.turn {o : Option (List Lt)} (h : PI w0 w X e o) (T : TT ts w0 w w') (ht : ∀ x ∈ ts, x ∈ [212, 66, 215, 9999]) : PI w0 w' X e o := by
  rcases h with h | ⟨pj, j, h1, h2, h3, h4, h5⟩
  · exact .inl h
  · exact .inr ⟨pj, j, h1, h2, h3, T.isB h4 (fun hm => by have := ht _ hm; revert this; decide) (fun hm => by have := ht _ hm; revert this; decide), h5⟩
theorem PO.turn {o : Option Ob} (h : PO w0 w X e o) (T : TT ts w0 w w') (ht : ∀ x ∈ ts, x ∈ [212, 66, 215, 9999]) : PO w0 w' X e o := by
  rcases h with h | ⟨po, b, ys, h1, h2, h3, h4, h5, h6⟩
  · exact .inl h
  · exact .inr ⟨po, b, ys, h1, h2, h3, T.isO h4 (fun hm => by have := ht _ hm; revert this; decide) (fun hm => by have := ht _ hm; revert this; decide), h5, h6⟩
theorem PP.turn {o : Option (List Lt)} (h : PP w0 w X e o) (T : TT ts w0 w w') (ht : ∀ x ∈ ts, x ∈ [212, 66, 215, 9999]) : PP w0 w' X e o := by
  obtain ⟨h1, w1, qs, h2, h3⟩ := h
  refine ⟨h1, w1, qs, ?_, h3⟩
  obtain ⟨S, kS, hS⟩ := T
  exact h2.kept kS fun y hy => ⟨fun e => TT.neR hS h2.own (fun hm => by have := ht _ hm; revert this; decide) y e hy, fun q hq e => TT.neJ hS (h2.args q hq) (fun hm => by have := ht _ hm; revert this; decide) y e hy⟩
theorem PJ.form {o : Option Jn} (h : PJ w0 w X e o) : ∃ x, X = .pointer x := by rcases h with ⟨-, h, -⟩ | ⟨pj, j, -, h, -⟩ <;> exact ⟨_, h⟩
theorem PI.form {o : Option (List Lt)} (h : PI w0 w X e o) : ∃ x, X = .pointer x := by rcases h with ⟨-, h, -⟩ | ⟨pj, j, -, h, -⟩ <;> exact ⟨_, h⟩
theorem PO.form {o : Option Ob} (h : PO w0 w X e o) : ∃ x, X = .pointer x := by rcases h with ⟨-, h, -⟩ | ⟨po, b, ys, -, h, -⟩ <;> exact ⟨_, h⟩
theorem PP.form {o : Option (List Lt)} (h : PP w0 w X e o) : ∃ a n c, X = .slice a n c := by
  obtain ⟨h1, w1, qs, h2, h3⟩ := h
  obtain ⟨a, c, e, -⟩ := h2.row.form
  exact ⟨a, _, c, e⟩
end
/-- An actor that is built beside a Reader; A: what was built so far. -/
structure RP (A : World → Prop) (w0 w : World) (p g q : Nat) (x0 x1 x2 : Value) (t : Int) (x4 : Value) (e0 e1 e2 e3 : Int) (l : List UInt8) (bad : Bool) : Prop where
  box : w.heap[p]? = some (.cells #[x0, x1, x2, Iv t, x4] 66 (0, 0))
  arr : w.heap[g]? = some (.cells #[Iv e0, Iv e1, Iv e2, Iv e3] 215 (0, 0))
  rd : ∃ v, IsR 212 w q v l bad ∧ v.ownBlock ≠ some p ∧ v.ownBlock ≠ some g
  hp : w0.heap.size ≤ p
  hg : w0.heap.size ≤ g
  hq : w0.heap.size ≤ q
  k : Kept [] w0 w
  a : A w
/-- What is built stays. -/
def Stays (w0 : World) (A : World → Prop) : Prop := ∀ w w' ts, TT ts w0 w w' → (∀ x ∈ ts, x ∈ [212, 66, 215, 9999]) → A w → A w'
section
variable {A : World → Prop} {w0 w w' : World} {p g q : Nat} {x0 x1 x2 x4 : Value} {t e0 e1 e2 e3 : Int} {l : List UInt8} {bad : Bool}
theorem RP.kept0 (hA : Stays w0 A) (h : RP A w0 w p g q x0 x1 x2 t x4 e0 e1 e2 e3 l bad) (k : Kept [] w w') : RP A w0 w' p g q x0 x1 x2 t x4 e0 e1 e2 e3 l bad := by
  obtain ⟨v, h1, h2⟩ := h.rd
  exact ⟨k.keeps h.box (by simp), k.keeps h.arr (by simp), ⟨v, h1.kept k (by simp) (by simp), h2⟩, h.hp, h.hg, h.hq, h.k.trans k (by simp), hA _ _ [] (TT.of0 k) (by simp) h.a⟩
theorem rp_text (hA : Stays w0 A) (h : RP A w0 w p g q x0 x1 x2 t x4 e0 e1 e2 e3 l bad) : Calls Tryz.prog 116 #[Ptr q] w fun e w' => e = .returned (Sv (rtext l bad).1) ∧ RP A w0 w' p g q x0 x1 x2 t x4 e0 e1 e2 e3 (rtext l bad).2.1 (rtext l bad).2.2 := by
  obtain ⟨v, h1, h2, h3⟩ := h.rd
  refine (rtext_any q v l bad w h1).mono ?_
  rintro e w' ⟨rfl, v', i1, i2, i3⟩
  have T : TT [212] w0 w w' := ⟨[q], i2, fun g' hg' => by simp at hg'; subst hg'; exact ⟨h.hq, _, _, h1.box, by simp⟩⟩
  exact ⟨rfl, ⟨T.box h.box (by decide), T.box h.arr (by decide), ⟨v', i1, fun e => h2 (i3 p e), fun e => h3 (i3 g e)⟩, h.hp, h.hg, h.hq, T.kept0 h.k, hA _ _ _ T (by simp) h.a⟩⟩
theorem RP.tt {i : Nat} {x : Value} (hA : Stays w0 A) (h : RP A w0 w p g q x0 x1 x2 t x4 e0 e1 e2 e3 l bad) : A (w.setCell ⟨p, i, none⟩ x) := hA _ _ _ (TT.set h.box h.hp x) (by simp) h.a
theorem RP.setP (hA : Stays w0 A) (h : RP A w0 w p g q x0 x1 x2 t x4 e0 e1 e2 e3 l bad) (i : Nat) (x : Value) {y0 y1 y2 y4 : Value} {s : Int} (hy : ([x0, x1, x2, Iv t, x4] : List Value).set i x = [y0, y1, y2, Iv s, y4]) : RP A w0 (w.setCell ⟨p, i, none⟩ x) p g q y0 y1 y2 s y4 e0 e1 e2 e3 l bad := by
  obtain ⟨v, h1, h2, h3⟩ := h.rd
  have T := TT.set (i := i) h.box h.hp x
  refine ⟨?_, T.box h.arr (by decide), ⟨v, h1.kept ((Kept.refl [p] w).setCell (p := ⟨p, i, none⟩) (.inl (by simp)) x) (fun hm => ?_) (fun g' hg' hm => ?_), h2, h3⟩, h.hp, h.hg, h.hq, T.kept0 h.k, hA _ _ _ T (by simp) h.a⟩
  · have := set_list (k := i) (x := x) (L := [x0, x1, x2, Iv t, x4]) h.box
    rw [hy] at this
    exact this
  · simp at hm
    exact box_ne h1.box h.box (by decide) hm
  · simp at hm
    subst hm
    exact h2 hg'
theorem RP.setE (hA : Stays w0 A) (h : RP A w0 w p g q x0 x1 x2 t x4 e0 e1 e2 e3 l bad) (i : Nat) (x : Int) {f0 f1 f2 f3 : Int} (hy : ([Iv e0, Iv e1, Iv e2, Iv e3] : List Value).set i (Iv x) = [Iv f0, Iv f1, Iv f2, Iv f3]) : RP A w0 (w.setCell ⟨g, i, none⟩ (Iv x)) p g q x0 x1 x2 t x4 f0 f1 f2 f3 l bad := by
  obtain ⟨v, h1, h2, h3⟩ := h.rd
  have T := TT.set (i := i) h.arr h.hg (Iv x)
  refine ⟨T.box h.box (by decide), ?_, ⟨v, h1.kept ((Kept.refl [g] w).setCell (p := ⟨g, i, none⟩) (.inl (by simp)) (Iv x)) (fun hm => ?_) (fun g' hg' hm => ?_), h2, h3⟩, h.hp, h.hg, h.hq, T.kept0 h.k, hA _ _ _ T (by simp) h.a⟩
  · have := set_list (k := i) (x := Iv x) (L := [Iv e0, Iv e1, Iv e2, Iv e3]) h.arr
    rw [hy] at this
    exact this
  · simp at hm
    exact box_ne h1.box h.arr (by decide) hm
  · simp at hm
    subst hm
    exact h3 hg'
theorem RP.more {B : World → Prop} (h : RP A w0 w p g q x0 x1 x2 t x4 e0 e1 e2 e3 l bad) (hb : B w) : RP (fun W => A W ∧ B W) w0 w p g q x0 x1 x2 t x4 e0 e1 e2 e3 l bad := ⟨h.box, h.arr, h.rd, h.hp, h.hg, h.hq, h.k, h.a, hb⟩
theorem Stays.and {B : World → Prop} (hA : Stays w0 A) (hB : Stays w0 B) : Stays w0 (fun W => A W ∧ B W) := fun w w' ts T ht h => ⟨hA _ _ _ T ht h.1, hB _ _ _ T ht h.2⟩
theorem RP.cells (h : RP A w0 w p g q x0 x1 x2 t x4 e0 e1 e2 e3 l bad) : w.cell? ⟨p, 0, none⟩ = some x0 ∧ w.cell? ⟨p, 1, none⟩ = some x1 ∧ w.cell? ⟨p, 2, none⟩ = some x2 ∧ w.cell? ⟨p, 3, none⟩ = some (Iv t) ∧ w.cell? ⟨p, 4, none⟩ = some x4 := by
  have h := h.box
  refine ⟨?_, ?_, ?_, ?_, ?_⟩ <;> (unfold World.cell?; rw [h]; rfl)
theorem RP.cellsE (h : RP A w0 w p g q x0 x1 x2 t x4 e0 e1 e2 e3 l bad) : w.cell? ⟨g, 0, none⟩ = some (Iv e0) ∧ w.cell? ⟨g, 1, none⟩ = some (Iv e1) ∧ w.cell? ⟨g, 2, none⟩ = some (Iv e2) ∧ w.cell? ⟨g, 3, none⟩ = some (Iv e3) := by
  have h := h.arr
  refine ⟨?_, ?_, ?_, ?_⟩ <;> (unfold World.cell?; rw [h]; rfl)
theorem RP.freeP (h : RP A w0 w p g q x0 x1 x2 t x4 e0 e1 e2 e3 l bad) (i : Nat) : w.frozen? ⟨p, i, none⟩ = false := by simp [World.frozen?, h.box]
theorem RP.freeE (h : RP A w0 w p g q x0 x1 x2 t x4 e0 e1 e2 e3 l bad) (i : Nat) : w.frozen? ⟨g, i, none⟩ = false := by simp [World.frozen?, h.arr]
end
theorem errs4 (e0 e1 e2 e3 : Int) (W : World) : (Op.equalIn 10000 215 (.agg #[Iv e0, Iv e1, Iv e2, Iv e3]) (.agg #[.int .i64 0, .int .i64 0, .int .i64 0, .int .i64 0])).run Tryz.prog W = .ok (decide (e0 = 0) && decide (e1 = 0) && decide (e2 = 0) && decide (e3 = 0)) W := by
  have hi : ∃ i, Tryz.prog.info? 36 = some i := Option.isSome_iff_exists.1 (by kernel_rfl)
  obtain ⟨i, hi⟩ := hi
  have hg : ∀ W : World, (isAgg 36).run Tryz.prog W = .ok false W := fun W => by kernel_rfl
  have he : ∀ (x y : Int) (W : World), (Op.equalIn 9999 36 (.int .i64 x) (.int .i64 y)).run Tryz.prog W = .ok (x == y) W := fun x y W => by
    rw [run_equalIn_int W 9998 36 .i64 _ x y Tryz.underlying36]
  have hc : Tryz.prog.cellsOf 36 = 1 := by kernel_rfl
  have hr : List.range 4 = [0, 1, 2, 3] := by decide
  rw [run_equalIn_array W 9999 _ _ Tryz.underlying215 hi, hc, hr]
  by_cases h0 : e0 = 0 <;> by_cases h1 : e1 = 0 <;> by_cases h2 : e2 = 0 <;> by_cases h3 : e3 = 0 <;> simp [Op.eqItems, part, hg, he, go_sem, h0, h1, h2, h3]
end Go.Proofs.YtngnenbidpojeaaGreatDoor
