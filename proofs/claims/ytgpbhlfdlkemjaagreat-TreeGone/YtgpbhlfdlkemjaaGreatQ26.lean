import Derived.Test.YtgpbhlfdlkemjaaGreatQ12
import Derived.Test.YtgpbhlfdlkemjaaGreatQ25
/-
  A ref is filled in: trees are as they were, with the ref.
-/
namespace Go.Proofs.YtgpbhlfdlkemjaaGreat
open Go.RowKit
set_option linter.unusedVariables false

/-- The refs, that of one block turned. -/
def updR (ρ : Rho) (b : Nat) (r : Nat × Nat) : Rho := fun x => if x = b then r else ρ x
theorem updR_same (ρ : Rho) (b : Nat) (r : Nat × Nat) : updR ρ b r b = r := by simp [updR]
theorem updR_ne (ρ : Rho) {b x : Nat} (r : Nat × Nat) (h : x ≠ b) : updR ρ b r x = ρ x := by simp [updR, h]
/-- None of the cells is a byte or a pointer. -/
def Odd (cs : List Value) : Prop := ∀ x ∈ cs, (∀ u, x ≠ B8 u) ∧ ∀ a, x ≠ Pp a
/-- In the block b, and else in none of F, the first two cells have become the ref r. -/
def Turned (w w' : World) (F : Nat → Prop) (b : Nat) (r : Nat × Nat) : Prop :=
  ∃ x0 x1 xs ty, w.heap[b]? = some (.cells (x0 :: x1 :: xs).toArray ty (0, 0)) ∧ w'.heap[b]? = some (.cells (.int .i64 (r.1 : Int) :: .int .u64 (r.2 : Int) :: xs).toArray ty (0, 0)) ∧ Odd (x0 :: x1 :: xs) ∧ ∃ S, Kept (b :: S) w w' ∧ ∀ s ∈ S, ¬ F s
section
variable {w w' : World} {F : Nat → Prop} {ρ : Rho} {b : Nat} {r : Nat × Nat}
theorem odd_cell {cs : List Value} {ty : TypeId} (h : w.heap[b]? = some (.cells cs.toArray ty (0, 0))) (ho : Odd cs) {o : Nat} {x : Value} (hx : w.cell? ⟨b, o, none⟩ = some x) : (∀ u, x ≠ B8 u) ∧ ∀ a, x ≠ Pp a := by
  refine ho x ?_
  have h1 : cs.toArray[o]? = some x := by simpa [World.cell?, h] using hx
  rw [List.getElem?_toArray] at h1
  exact List.mem_of_getElem? h1
theorem IsI.turned {i : Itm} (h : IsI w F ρ i) (t : Turned w w' F b r) : IsI w' F (updR ρ b r) i := by
  obtain ⟨x0, x1, xs, ty, h1, h2, h3, S, k, hS⟩ := t
  obtain ⟨v, hb, hr, hF, hFv⟩ := h
  have hr' : Reads w' v i.val := hr.keptE k (fun hl g hg hm => by
    rcases List.mem_cons.1 hm with rfl | hm
    · obtain ⟨a, c, rfl, _, _, _, h5⟩ := hr
      obtain ⟨b', o, rfl, hc⟩ := h5 hl
      have e : b' = g := by simpa [Value.ownBlock] using hg
      subst e
      obtain ⟨u, hu⟩ : ∃ u, i.val[0]? = some u := ⟨_, List.getElem?_eq_getElem (List.length_pos_iff.2 hl)⟩
      exact (odd_cell h1 h3 (hc 0 u hu)).1 u rfl
    · exact hS g hm (hFv hl g hg))
  by_cases e : i.ad = b
  · refine ⟨v, ?_, hr', hF, hFv⟩
    rw [e] at hb ⊢
    rw [hb] at h1
    injection h1 with h1
    injection h1 with h1 h1b _
    have h4 := congrArg Array.toList h1
    simp at h4
    obtain ⟨_, _, h5⟩ := h4
    rw [h2, updR_same, ← h5, ← h1b]
  · refine ⟨v, ?_, hr', hF, hFv⟩
    rw [updR_ne ρ r e]
    exact k.keeps hb (fun hm => by
      rcases List.mem_cons.1 hm with h6 | h6
      · exact e h6
      · exact hS _ h6 hF)
theorem IsB.turned {a lv : Nat} {is us : List Nat} (h : IsB w F a (ρ a) lv is us) (t : Turned w w' F b r) : IsB w' F a (updR ρ b r a) lv is us := by
  obtain ⟨x0, x1, xs, ty, h1, h2, h3, S, k, hS⟩ := t
  obtain ⟨vi, vu, hb, hri, hru, hF, hFi, hFu⟩ := h
  have key : ∀ (v : Value) (l : List Nat), ReadsP w v l → (l ≠ [] → ∀ g, v.ownBlock = some g → F g) → ReadsP w' v l := fun v l hr hf => hr.keptE k (fun hl g hg hm => by
    rcases List.mem_cons.1 hm with rfl | hm
    · obtain ⟨x, hx⟩ : ∃ x, l[0]? = some x := ⟨_, List.getElem?_eq_getElem (List.length_pos_iff.2 hl)⟩
      obtain ⟨b', o, c, rfl, hc⟩ := hr.at 0 x hx
      have e : b' = g := by simpa [Value.ownBlock] using hg
      subst e
      exact (odd_cell h1 h3 hc).2 x rfl
    · exact hS g hm (hf hl g hg))
  by_cases e : a = b
  · refine ⟨vi, vu, ?_, key _ _ hri hFi, key _ _ hru hFu, hF, hFi, hFu⟩
    rw [e] at hb ⊢
    rw [hb] at h1
    injection h1 with h1
    injection h1 with h1 h1b _
    have h4 := congrArg Array.toList h1
    simp at h4
    obtain ⟨_, _, h5⟩ := h4
    rw [h2, updR_same, ← h5, ← h1b]
  · refine ⟨vi, vu, ?_, key _ _ hri hFi, key _ _ hru hFu, hF, hFi, hFu⟩
    rw [updR_ne ρ r e]
    exact k.keeps hb (fun hm => by
      rcases List.mem_cons.1 hm with h6 | h6
      · exact e h6
      · exact hS _ h6 hF)
/-- EVERY tree is as it was, with the ref. -/
theorem IsN.turned (t : Turned w w' F b r) : {k : Nat} → {n : Tr k} → IsN w F ρ n → IsN w' F (updR ρ b r) n
  | 0, _, h => ⟨h.1.turned t, fun i hi => (h.2 i hi).turned t⟩
  | _ + 1, _, h => ⟨h.1.turned t, fun u hu => IsN.turned t (h.2 u hu)⟩
end
end Go.Proofs.YtgpbhlfdlkemjaaGreat
/-
  A layer in memory; put, in the words of the trees.
-/
namespace Go.Proofs.YtgpbhlfdlkemjaaGreat
open Go.RowKit
set_option linter.unusedVariables false

/-- A layer at lb that lays trees whose blocks are F: it has put these names; the Pages are in none of X. -/
structure Ly (w0 w : World) (F : Nat → Prop) (lb p : Nat) (vn : Value) (names : List Nat) (q : Nat) (s : St) (fr ct : Nat) (L : List Ent) (fl : List Nat) (X : Nat → Prop) : Prop where
  box : w.heap[lb]? = some (.cells #[Pp p, vn] 152 (0, 0))
  own : OwnsI w vn names
  apart : vn.ownBlock ≠ some lb
  sy : SyP w0 w q p s fr ct L fl X
  low : ∀ x, X x → x < w.heap.size
  xl : X lb
  xn : ∀ g, vn.ownBlock = some g → X g
  xf : ∀ g, F g → g < w.heap.size → X g
  fl0 : ¬ F lb
  fn : ∀ g, vn.ownBlock = some g → ¬ F g
  since : w0.heap.size ≤ lb ∧ ∀ g, vn.ownBlock = some g → w0.heap.size ≤ g
section
variable {w0 w w' : World} {F : Nat → Prop} {ρ : Rho} {lb p : Nat} {vn : Value} {names : List Nat} {q : Nat} {s : St} {fr ct : Nat} {L : List Ent} {fl : List Nat} {X : Nat → Prop}
/-- New memory, nothing else. -/
theorem Ly.kept (h : Ly w0 w F lb p vn names q s fr ct L fl X) (k : Kept [] w w') (hF : ∀ g, F g → g < w.heap.size) : Ly w0 w' F lb p vn names q s fr ct L fl X :=
  ⟨k.keeps h.box (by simp), h.own.kept k (by simp), h.apart, h.sy.kept k, fun x hx => Nat.lt_of_lt_of_le (h.low x hx) k.size, h.xl, h.xn, fun g hg _ => h.xf g hg (hF g hg), h.fl0, h.fn, h.since⟩
/-- put, the power being on. -/
theorem ly_put (h : Ly w0 w F lb p vn names q s fr ct L fl X) (hF : ∀ g, F g → g < w.heap.size) (hFw : ∀ g, F g → w0.heap.size ≤ g) {ib : Nat} {x0 x1 : Value} {xs : List Value} {ty : TypeId} (hib : w.heap[ib]? = some (.cells (x0 :: x1 :: xs).toArray ty (0, 0))) (hodd : Odd (x0 :: x1 :: xs)) (hFi : F ib) (a : Option Addr) (n c : Nat) (l : List UInt8) (hn : n = l.length) (hr : Reads w (.slice a n c) l) (hX : ∀ g, (Value.slice a n c).ownBlock = some g → g ≠ lb ∧ vn.ownBlock ≠ some g) (hnl : names.length ≤ 900000) (hl : n ≤ 20000) (hk : bks n ≤ fl.length) (hd : s.down = false) (hf : s.fuse < 0 ∨ (bks n : Int) ≤ s.fuse) (hws : s.ws.length ≤ 90000)
    (hsy : SyP w0 w q p s fr ct L fl (fun b => (Value.slice a n c).ownBlock = some b ∨ X b)) (hvl : ∀ g, (Value.slice a n c).ownBlock = some g → g < w.heap.size) :
    Calls Tryz.prog 127 #[Pp lb, Pp ib, .slice a n c] w fun e w' => e = .returned (.int .i64 0) ∧ ∃ (nm : Nat) (vs : List Wr) (fu : Int) (vn' : Value), fl.head? = some nm ∧ vs.length = bks n ∧ (∀ x ∈ vs, x.1 ∈ fl.take (bks n)) ∧ (s.fuse < 0 → fu = s.fuse) ∧ Turned w w' F ib (nm, fnv l) ∧ w.heap.size ≤ w'.heap.size ∧
      Ly w0 w' F lb p vn' (names ++ [nm]) q { s with ws := s.ws ++ vs, fuse := fu } fr ct (L ++ [(nm, fl.take (bks n), l)]) (fl.drop (bks n)) (fun b => vn'.ownBlock = some b ∨ X b) := by
  have hne : ib ≠ lb := fun e => h.fl0 (by rw [← e]; exact hFi)
  have hni : vn.ownBlock ≠ some ib := fun e => h.fn ib e hFi
  have c0 : w.cell? ⟨lb, 0, none⟩ = some (Pp p) := by simp only [World.cell?, h.box]; rfl
  have h152 := psy_put hsy a n c l hn hr (fun g hg => .inl (.inl hg)) (fun x hx => hx.elim (hvl x) (h.low x)) hl hk hd hf hws
  refine (lput_ok (l := l) (vn := vn) (names := names) (ib := ib) (x0 := x0) (x1 := x1) (xs := xs) (ty := ty) c0 hnl h.apart hne hni (Hid.mk hX) (R := fun nm w1 => ∃ (vs : List Wr) (fu : Int), fl.head? = some nm ∧ vs.length = bks n ∧ (∀ x ∈ vs, x.1 ∈ fl.take (bks n)) ∧ (s.fuse < 0 → fu = s.fuse) ∧ SyP w0 w1 q p { s with ws := s.ws ++ vs, fuse := fu } fr ct (L ++ [(nm, fl.take (bks n), l)]) (fl.drop (bks n)) (fun b => (Value.slice a n c).ownBlock = some b ∨ X b) ∧ KP (fun b => (Value.slice a n c).ownBlock = some b ∨ X b) w w1) (h152.mono ?_)).mono ?_
  · rintro e w1 ⟨nm, vs, fu, rfl, g1, g2, g3, g4, g5, g6⟩
    obtain ⟨S, k, hS⟩ := id g6
    exact ⟨nm, rfl, k.keeps h.box (hS lb (.inr h.xl)), h.own.kept k (fun g hg => hS g (.inr (h.xn g hg))), k.keeps hib (hS ib (.inr (h.xf ib hFi (hF ib hFi)))), hr.kept k (fun g hg => hS g (.inl hg)), vs, fu, g1, g2, g3, g4, g5, g6⟩
  · rintro e w' ⟨rfl, nm, w1, ⟨vs, fu, g1, g2, g3, g4, g5, S, k, hS⟩, vn', d1, d2, d3, d4, d5⟩
    have hlt1 : lb < w1.heap.size := Nat.lt_of_lt_of_le (h.low lb h.xl) k.size
    have hvn' : ∀ g, vn'.ownBlock = some g → vn.ownBlock = some g ∨ w1.heap.size ≤ g := d3
    refine ⟨rfl, nm, vs, fu, vn', g1, g2, g3, g4, ⟨x0, x1, xs, ty, hib, d4, hodd, S ++ lb :: vn.ownBlock.toList, ?_, fun x hx hFx => ?_⟩, Nat.le_trans k.size d5.size, ⟨d1, d2, fun e => ?_, ?_, fun x hx => ?_, .inr h.xl, fun g hg => .inl hg, fun g hg _ => .inr (h.xf g hg (hF g hg)), h.fl0, fun g hg hFg => ?_, h.since.1, fun g hg => ?_⟩⟩
    · refine (k.mono (fun x hx => .inl (by simp [hx]))).trans d5 (fun b hb => .inl ?_)
      simp at hb ⊢
      rcases hb with hb | hb | hb
      · simp [hb]
      · simp [hb]
      · simp [hb]
    · rcases List.mem_append.1 hx with h1 | h1
      · exact hS x (.inr (h.xf x hFx (hF x hFx))) h1
      · rcases List.mem_cons.1 h1 with h2 | h2
        · exact h.fl0 (by rw [← h2]; exact hFx)
        · exact h.fn x (by simpa using h2) hFx
    · rcases hvn' lb e with h1 | h1
      · exact h.apart h1
      · omega
    · have s1 := SyP.more (Y := fun b => w1.heap.size ≤ b) g5 (Kept.refl [] w1) (fun y hy => hy)
      have s2 := s1.turn d5 (fun x hx => by
        simp at hx
        rcases hx with hx | hx | hx
        · exact .inl (.inr (.inr (by rw [hx]; exact h.xl)))
        · exact .inl (.inr (.inr (by rw [hx]; exact h.xf ib hFi (hF ib hFi))))
        · exact .inl (.inr (.inr (h.xn x hx)))) (fun x hx => by
        simp at hx
        rcases hx with hx | hx | hx
        · rw [hx]; exact h.since.1
        · rw [hx]; exact hFw ib hFi
        · exact h.since.2 x hx)
      refine s2.less fun y hy => ?_
      rcases hy with hy | hy
      · rcases hvn' y hy with h1 | h1
        · exact .inr (.inr (h.xn y h1))
        · exact .inl h1
      · exact .inr (.inr hy)
    · rcases hx with hx | hx
      · exact d2.lt hx
      · exact Nat.lt_of_lt_of_le (h.low x hx) (Nat.le_trans k.size d5.size)
    · rcases hvn' g hg with h1 | h1
      · exact h.fn g h1 hFg
      · have := hF g hFg; have := k.size; omega
    · rcases hvn' g hg with h1 | h1
      · exact h.since.2 g h1
      · exact Nat.le_trans h.sy.k.size (Nat.le_trans k.size h1)
/-- put, when the power fails. -/
theorem ly_lost (h : Ly w0 w F lb p vn names q s fr ct L fl X) (hF : ∀ g, F g → g < w.heap.size) {ib : Nat} (a : Option Addr) (n c : Nat) (l : List UInt8) (hn : n = l.length) (hr : Reads w (.slice a n c) l) (hl : n ≤ 20000) (hk : bks n ≤ fl.length) (hd : s.down = false) (f : Nat) (hf : s.fuse = (f : Int)) (hfl : f < bks n) (hws : s.ws.length ≤ 90000)
    (hsy : SyP w0 w q p s fr ct L fl (fun b => (Value.slice a n c).ownBlock = some b ∨ X b)) (hvl : ∀ g, (Value.slice a n c).ownBlock = some g → g < w.heap.size) :
    Calls Tryz.prog 127 #[Pp lb, Pp ib, .slice a n c] w fun e w' => e = .returned (.int .i64 9) ∧ ∃ vs : List Wr, vs.length = f ∧ Ly w0 w' F lb p vn names q { s with ws := s.ws ++ vs, fuse := 0, down := true } fr ct L fl X ∧ ∃ S, Kept S w w' ∧ ∀ x ∈ S, ¬ F x := by
  have c0 : w.cell? ⟨lb, 0, none⟩ = some (Pp p) := by simp only [World.cell?, h.box]; rfl
  have h152 := psy_put_lost hsy a n c l hn hr (fun g hg => .inl (.inl hg)) (fun x hx => hx.elim (hvl x) (h.low x)) hl hk hd f hf hfl hws
  refine lput_err (vn := vn) (ib := ib) c0 9 (by omega) (h152.mono ?_)
  rintro e w' ⟨rfl, vs, g1, g2, S, k, hS⟩
  refine ⟨rfl, vs, g1, ⟨k.keeps h.box (hS lb (.inr h.xl)), h.own.kept k (fun g hg => hS g (.inr (h.xn g hg))), h.apart, g2.less fun y hy => .inr hy, fun x hx => Nat.lt_of_lt_of_le (h.low x hx) k.size, h.xl, h.xn, fun g hg _ => h.xf g hg (hF g hg), h.fl0, h.fn, h.since⟩, S, k, fun x hx hFx => hS x (.inr (h.xf x hFx (hF x hFx))) hx⟩
end
end Go.Proofs.YtgpbhlfdlkemjaaGreat
/-
  The blocks whose refs are filled in.
-/
namespace Go.Proofs.YtgpbhlfdlkemjaaGreat
open Go.RowKit
set_option linter.unusedVariables false

section
variable {w : World} {F : Nat → Prop} {ρ : Rho}
theorem odd_int (k : IntKind) (z : Int) (hk : k ≠ .u8) : (∀ u, Value.int k z ≠ B8 u) ∧ ∀ a, Value.int k z ≠ Pp a := ⟨fun u e => by simp only [B8] at e; injection e with e _; exact hk e, fun a e => by injection e⟩
theorem odd_slice (a : Option Addr) (n c : Nat) : (∀ u, Value.slice a n c ≠ B8 u) ∧ ∀ b, Value.slice a n c ≠ Pp b := ⟨fun u e => by simp only [B8] at e; injection e, fun b e => by injection e⟩
theorem odd_string (x : ByteArray) : (∀ u, Value.string x ≠ B8 u) ∧ ∀ b, Value.string x ≠ Pp b := ⟨fun u e => by simp only [B8] at e; injection e, fun b e => by injection e⟩
/-- An item's block, ready for its ref. -/
theorem IsI.odd {i : Itm} (h : IsI w F ρ i) : ∃ x0 x1 xs ty, w.heap[i.ad]? = some (.cells (x0 :: x1 :: xs).toArray ty (0, 0)) ∧ Odd (x0 :: x1 :: xs) := by
  obtain ⟨v, h1, h2, _⟩ := h
  obtain ⟨a, c, rfl, _⟩ := h2
  refine ⟨_, _, [.string ⟨i.key.toArray⟩, .slice a i.val.length c], 104, h1, fun x hx => ?_⟩
  simp at hx
  rcases hx with rfl | rfl | rfl | rfl
  · exact odd_int _ _ (by decide)
  · exact odd_int _ _ (by decide)
  · exact odd_string _
  · exact odd_slice _ _ _
/-- A node's block, ready for its ref. -/
theorem IsN.odd {k : Nat} {n : Tr k} (h : IsN w F ρ n) : ∃ x0 x1 xs ty, w.heap[adr n]? = some (.cells (x0 :: x1 :: xs).toArray ty (0, 0)) ∧ Odd (x0 :: x1 :: xs) := by
  obtain ⟨vi, vu, h1, h2, h3, _⟩ := h.isB
  obtain ⟨a, c, rfl, _⟩ := h2.form
  obtain ⟨a', c', rfl, _⟩ := h3.form
  refine ⟨_, _, [.int .i64 (k : Int), .slice a (ia n).length c, .slice a' (ua n).length c'], 114, h1, fun x hx => ?_⟩
  simp at hx
  rcases hx with rfl | rfl | rfl | rfl | rfl
  · exact odd_int _ _ (by decide)
  · exact odd_int _ _ (by decide)
  · exact odd_int _ _ (by decide)
  · exact odd_slice _ _ _
  · exact odd_slice _ _ _
end
end Go.Proofs.YtgpbhlfdlkemjaaGreat
/-
  Dropping names, one behind the other.
-/
namespace Go.Proofs.YtgpbhlfdlkemjaaGreat
open Go.RowKit
set_option linter.unusedVariables false

/-- The texts but those of these names. -/
def remE (L : List Ent) (ns : List Nat) : List Ent := L.filter fun x => decide (x.1 ∉ ns)
theorem remE_nil (L : List Ent) : remE L [] = L := by unfold remE; exact List.filter_eq_self.2 (by simp)
theorem remE_step {L : List Ent} {ns : List Nat} {y : Nat} (hn : (L.map (·.1)).Nodup) (hy : y ∉ ns) (hm : y ∈ L.map (·.1)) : ∃ A x B, x.1 = y ∧ remE L ns = A ++ x :: B ∧ remE L (ns ++ [y]) = A ++ B := by
  obtain ⟨x, hx, e⟩ := List.mem_map.1 hm
  have hxr : x ∈ remE L ns := List.mem_filter.2 ⟨hx, by rw [e]; simpa using hy⟩
  obtain ⟨A, B, hAB⟩ := List.append_of_mem hxr
  refine ⟨A, x, B, e, hAB, ?_⟩
  have h1 : remE L (ns ++ [y]) = (remE L ns).filter fun z => decide (z.1 ≠ y) := by
    unfold remE
    rw [List.filter_filter]
    refine List.filter_congr fun z _ => ?_
    simp [and_comm]
  have hnr : ((remE L ns).map (·.1)).Nodup := List.Nodup.sublist (List.Sublist.map _ List.filter_sublist) hn
  rw [hAB, List.map_append, List.map_cons] at hnr
  obtain ⟨_, h3, h4⟩ := List.nodup_append.1 hnr
  have h5 := (List.nodup_cons.1 h3).1
  rw [h1, hAB, List.filter_append, List.filter_cons]
  have hA : A.filter (fun z => decide (z.1 ≠ y)) = A := List.filter_eq_self.2 fun z hz => by
    simp
    intro e2
    exact h4 z.1 (List.mem_map_of_mem hz) x.1 (by simp) (by rw [e2, e])
  have hB : B.filter (fun z => decide (z.1 ≠ y)) = B := List.filter_eq_self.2 fun z hz => by
    simp
    intro e2
    exact h5 (by rw [e, ← e2]; exact List.mem_map_of_mem hz)
  rw [hA, hB, if_neg (by simp [e])]
theorem KP.trans {X : Nat → Prop} {w w1 w2 : World} (h : KP X w w1) (h' : KP X w1 w2) : KP X w w2 := by
  obtain ⟨S, k, hS⟩ := h
  obtain ⟨S', k', hS'⟩ := h'
  exact ⟨S ++ S', (k.mono (fun x hx => .inl (by simp [hx]))).trans k' (fun b hb => .inl (by simp [hb])), fun x hx hm => by
    rcases List.mem_append.1 hm with h | h
    · exact hS x hx h
    · exact hS' x hx h⟩
section
variable {w0 w : World} {q p : Nat} {s : St} {fr ct : Nat} {L : List Ent} {fl : List Nat} {X : Nat → Prop}
set_option maxRecDepth 100000 in
set_option maxHeartbeats 1000000 in
theorem settle_any {tb : Nat} {tp vo : Value} {old : List Nat} (hb : w.heap[tb]? = some (.cells #[Pp p, tp, vo] 81 (0, 0))) (ho : OwnsI w vo old) (hap : vo.ownBlock ≠ some tb) (hsy : Hid (SyP w0 w q p s fr ct L fl X)) (hlow : Hid (∀ x, X x → x < w.heap.size)) (hxt : Hid (X tb)) (hxo : Hid (∀ g, vo.ownBlock = some g → X g)) (hnd : Hid old.Nodup) (hin : Hid (∀ y ∈ old, y ∈ L.map (·.1))) (hol : old.length ≤ 1000000) (htw : Hid (w0.heap.size ≤ tb)) :
    Calls Tryz.prog 18 #[Pp tb] w fun e w' => e = .returned (.tuple #[]) ∧ w'.heap[tb]? = some (.cells #[Pp p, tp, .slice none 0 0] 81 (0, 0)) ∧ ∃ fl', SyP w0 w' q p s fr ct (remE L old) fl' X ∧ ∃ w1, KP X w w1 ∧ Kept [tb] w1 w' := by
  obtain ⟨aO, cO, e, hcap, hcm⟩ := ho.form
  have HO : Hid (OwnsI w vo old) := Hid.mk ho
  have HB := Hid.mk hb
  have c0 : w.cell? ⟨tb, 0, none⟩ = some (Pp p) := by simp only [World.cell?, hb]; rfl
  have c2 : w.cell? ⟨tb, 2, none⟩ = some vo := by simp only [World.cell?, hb]; rfl
  subst e
  obtain ⟨N, HN⟩ : ∃ N, Hid (old.length = N) := ⟨_, rfl⟩
  rw [HN.out] at c2 HO hxo hap hcap hol
  have HK : Hid (∀ W, KP X w W → W.heap[tb]? = some (.cells #[Pp p, tp, .slice aO N cO] 81 (0, 0)) ∧ OwnsI W (.slice aO N cO) old) := Hid.mk fun W kW => by
    obtain ⟨S, k, hS⟩ := kW
    have hb := HB.out
    rw [HN.out] at hb
    exact ⟨k.keeps hb (hS tb hxt.out), HO.out.kept k (fun g hg => hS g (hxo.out g hg))⟩
  have hnm := Hid.mk hsy.out.ok.names
  clear hb ho HB HO
  go_enter Tryz.func18, Tryz.ntmps18
  go_wp2_with fail
  go_loopw [11] (fun i wr => ∃ j : Nat, i = .int .i64 (j : Int) ∧ j ≤ N ∧ Hid (KP X w wr) ∧ Hid (∃ fl', SyP w0 wr q p s fr ct (remE L (old.take j)) fl' X)) (fun i _ => N - (intOf i).toNat)
  case atStart => exact ⟨0, rfl, by omega, Hid.mk (KP.refl X w), Hid.mk ⟨fl, by rw [List.take_zero, remE_nil]; exact hsy.out⟩⟩
  case round =>
    obtain ⟨j, rfl, hj, hkp, hsj⟩ := hrel
    obtain ⟨hbr, hor⟩ := HK.out wr hkp.out
    have d0 : wr.cell? ⟨tb, 0, none⟩ = some (Pp p) := by simp only [World.cell?, hbr]; rfl
    have d2 : wr.cell? ⟨tb, 2, none⟩ = some (.slice aO N cO) := by simp only [World.cell?, hbr]; rfl
    have f2 : wr.frozen? ⟨tb, 2, none⟩ = false := by simp only [World.frozen?, hbr]; rfl
    by_cases hlt : j < N
    · obtain ⟨y, hy⟩ : ∃ y, old[j]? = some y := ⟨_, List.getElem?_eq_getElem (by have := HN.out; omega)⟩
      obtain ⟨g, c', e, hcell⟩ := hor.at j y hy
      injection e with e eN e2
      subst e e2
      clear eN
      have hts := tsnoc hy
      have hyn : y ∉ old.take j := fun hm => by
        have h1 : (old.take (j + 1)).Nodup := List.Nodup.sublist (List.take_sublist _ _) hnd.out
        rw [hts] at h1
        exact (List.nodup_append.1 h1).2.2 y hm y (by simp) rfl
      obtain ⟨A, x, B, hx1, hx2, hx3⟩ := remE_step hnm.out hyn (hin.out y (List.mem_of_getElem? hy))
      obtain ⟨fl', hs'⟩ := hsj.out
      rw [hx2] at hs'
      have hdr := psy_drop hs' (fun z hz => Nat.lt_of_lt_of_le (hlow.out z hz) (by obtain ⟨S, k, _⟩ := hkp.out; exact k.size))
      rw [hx1] at hdr
      have HX3 : Hid (A ++ B = remE L (old.take (j + 1))) := Hid.mk (by rw [hts, hx3])
      clear hy hyn hx2 hx3 hs' hts hbr hor d2 f2 c0 c2
      go_wp2_with fail
      refine hdr.mono ?_
      rintro e w2 ⟨rfl, h1, h2⟩
      have HR : Hid (KP X w w2) := Hid.mk (hkp.out.trans h2)
      have HS : Hid (∃ fl', SyP w0 w2 q p s fr ct (remE L (old.take (j + 1))) fl' X) := Hid.mk ⟨_, by rw [← HX3.out]; exact h1⟩
      clear hdr h1 h2 hsj hkp
      go_wp2
      go_roundw
      case rel => exact ⟨j + 1, by go_num, by omega, HR, HS⟩
      case measure => simp [intOf]; omega
    · obtain rfl : j = N := by omega
      have HD : Hid ((wr.setCell ⟨tb, 2, none⟩ (.slice none 0 0)).heap[tb]? = some (.cells #[Pp p, tp, .slice none 0 0] 81 (0, 0)) ∧ ∃ fl', SyP w0 (wr.setCell ⟨tb, 2, none⟩ (.slice none 0 0)) q p s fr ct (remE L old) fl' X ∧ ∃ w1, KP X w w1 ∧ Kept [tb] w1 (wr.setCell ⟨tb, 2, none⟩ (.slice none 0 0))) := Hid.mk (by
        obtain ⟨fl', hs'⟩ := hsj.out
        rw [List.take_of_length_le (by have := HN.out; omega)] at hs'
        have k5 : Kept [tb] wr (wr.setCell ⟨tb, 2, none⟩ (.slice none 0 0)) := (Kept.refl [tb] wr).setCell (.inl (by simp)) _
        refine ⟨by rw [heap_setCell_same wr tb 2 _ 81 _ hbr]; rfl, fl', hs'.turn k5 (fun x hx => by simp at hx; subst hx; exact .inl hxt.out) (fun x hx => by simp at hx; subst hx; exact htw.out), wr, hkp.out, k5⟩)
      clear hbr hor hsj hkp c0 c2
      go_wp2
      go_end0
      exact ⟨rfl, HD.out⟩
end
end Go.Proofs.YtgpbhlfdlkemjaaGreat
/-
  The document's table, plainly; that a tree's items are the table's.
-/
namespace Go.Proofs.YtgpbhlfdlkemjaaGreat
set_option linter.unusedVariables false

/-- A key and its value. -/
abbrev KV := List UInt8 × List UInt8
/-- A change, as it is asked for. -/
structure Cg where
  key : List UInt8
  val : List UInt8
  gone : Bool
def kv (i : Itm) : KV := (i.key, i.val)
/-- A change of a table. -/
def tset (T : List KV) (c : Cg) : List KV := T.filter (fun x => decide (x.1 < c.key)) ++ (if c.gone then [] else [(c.key, c.val)]) ++ T.filter fun x => decide (c.key < x.1)
def tapp (T : List KV) (cs : List Cg) : List KV := cs.foldl tset T
def UpK (T : List KV) : Prop := T.Pairwise fun a b => a.1 < b.1
theorem up_kv {l : List Itm} (h : Up l) : UpK (l.map kv) := List.pairwise_map.2 h
theorem mem_tset {T : List KV} {c : Cg} {x : KV} : x ∈ tset T c ↔ (c.gone = false ∧ x = (c.key, c.val)) ∨ (x ∈ T ∧ c.key ≠ x.1) := by
  unfold tset
  simp only [List.mem_append, List.mem_filter, decide_eq_true_eq]
  constructor
  · rintro ((⟨h1, h2⟩ | h) | ⟨h1, h2⟩)
    · exact .inr ⟨h1, fun e => klt_irrefl _ (e ▸ h2)⟩
    · cases hg : c.gone with
      | true => simp [hg] at h
      | false => simp [hg] at h; exact .inl ⟨rfl, h⟩
    · exact .inr ⟨h1, fun e => klt_irrefl _ (e ▸ h2)⟩
  · rintro (⟨h1, h2⟩ | ⟨h1, h2⟩)
    · exact .inl (.inr (by simp [h1, h2]))
    · by_cases hlt : x.1 < c.key
      · exact .inl (.inl ⟨h1, hlt⟩)
      · exact .inr ⟨h1, klt_total hlt (fun e => h2 e.symm)⟩
theorem up_tset {T : List KV} (h : UpK T) (c : Cg) : UpK (tset T c) := by
  have hf : ∀ p : KV → Bool, UpK (T.filter p) := fun p => List.Pairwise.sublist List.filter_sublist h
  have hl : ∀ x ∈ T.filter (fun x => decide (x.1 < c.key)), x.1 < c.key := fun x hx => by simpa using (List.mem_filter.1 hx).2
  have hr : ∀ x ∈ T.filter (fun x => decide (c.key < x.1)), c.key < x.1 := fun x hx => by simpa using (List.mem_filter.1 hx).2
  have hm : ∀ x ∈ (if c.gone then [] else [(c.key, c.val)] : List KV), x.1 = c.key := fun x hx => by
    cases hg : c.gone with
    | true => simp [hg] at hx
    | false => simp [hg] at hx; rw [hx]
  refine List.pairwise_append.2 ⟨List.pairwise_append.2 ⟨hf _, ?_, fun a ha b hb => by rw [hm b hb]; exact hl a ha⟩, hf _, fun a ha b hb => ?_⟩
  · cases c.gone with
    | true => exact List.Pairwise.nil
    | false => exact List.pairwise_singleton _ _
  · rcases List.mem_append.1 ha with ha | ha
    · exact klt_trans (hl a ha) (hr b hb)
    · rw [hm a ha]; exact hr b hb
theorem up_tapp : ∀ (cs : List Cg) {T : List KV}, UpK T → UpK (tapp T cs)
  | [], _, h => h
  | c :: cs, _, h => up_tapp cs (up_tset h c)
theorem tapp_cons (T : List KV) (c : Cg) (cs : List Cg) : tapp T (c :: cs) = tapp (tset T c) cs := rfl
theorem tapp_append (T : List KV) (cs ds : List Cg) : tapp T (cs ++ ds) = tapp (tapp T cs) ds := by simp [tapp]
theorem mem_tapp : ∀ (cs : List Cg) {T : List KV} {x : KV}, (cs.map Cg.key).Nodup → (x ∈ tapp T cs ↔ (∃ c ∈ cs, c.gone = false ∧ x = (c.key, c.val)) ∨ (x ∈ T ∧ ∀ c ∈ cs, c.key ≠ x.1))
  | [], T, x, _ => by simp [tapp]
  | c :: cs, T, x, h => by
    rw [List.map_cons] at h
    obtain ⟨h1, h2⟩ := List.nodup_cons.1 h
    rw [tapp_cons, mem_tapp cs h2]
    constructor
    · rintro (⟨d, hd, h3, h4⟩ | ⟨h3, h4⟩)
      · exact .inl ⟨d, by simp [hd], h3, h4⟩
      · rcases mem_tset.1 h3 with ⟨h5, h6⟩ | ⟨h5, h6⟩
        · exact .inl ⟨c, by simp, h5, h6⟩
        · exact .inr ⟨h5, fun d hd => by
            rcases List.mem_cons.1 hd with rfl | hd
            · exact h6
            · exact h4 d hd⟩
    · rintro (⟨d, hd, h3, h4⟩ | ⟨h3, h4⟩)
      · rcases List.mem_cons.1 hd with rfl | hd
        · refine .inr ⟨mem_tset.2 (.inl ⟨h3, h4⟩), fun e he h5 => h1 (List.mem_map.2 ⟨e, he, ?_⟩)⟩
          rw [h5, h4]
        · exact .inl ⟨d, hd, h3, h4⟩
      · exact .inr ⟨mem_tset.2 (.inr ⟨h3, h4 c (by simp)⟩), fun d hd => h4 d (by simp [hd])⟩
theorem nodup_key {α β : Type} {f : α → β} : ∀ {l : List α}, (l.map f).Nodup → ∀ a ∈ l, ∀ b ∈ l, f a = f b → a = b
  | [], _, a, ha, _, _, _ => by simp at ha
  | x :: l, h, a, ha, b, hb, e => by
    rw [List.map_cons] at h
    obtain ⟨h1, h2⟩ := List.nodup_cons.1 h
    rcases List.mem_cons.1 ha with rfl | ha'
    · rcases List.mem_cons.1 hb with rfl | hb'
      · rfl
      · exact absurd (List.mem_map.2 ⟨b, hb', e.symm⟩) h1
    · rcases List.mem_cons.1 hb with rfl | hb'
      · exact absurd (List.mem_map.2 ⟨a, ha', e⟩) h1
      · exact nodup_key h2 a ha' b hb' e
/-- Does the change change something? -/
def chg (is : List Itm) (c : Cg) : Bool := if c.gone then decide (c.key ∈ is.map Itm.key) else decide ((c.key, c.val) ∉ is.map kv)
/-- The change by its key and its new value. -/
def asC (c : Cg) : List UInt8 × Option (List UInt8) := (c.key, if c.gone then none else some c.val)
def chV (c : Chg) : List UInt8 × Option (List UInt8) := (c.1, c.2.map Itm.val)
theorem mrg_tapp {is : List Itm} (hu : Up is) {list rising : List Cg} (hp : list.Perm rising) (hn : (list.map Cg.key).Nodup) {cs : List Chg} (hcu : ChUp cs) (hco : ChOk cs) (he : cs.map chV = (rising.filter (chg is)).map asC) : (mrg is cs).map kv = tapp (is.map kv) list := by
  refine up_ext (up_kv (up_mrg cs is hcu hco hu)) (up_tapp list (up_kv hu)) fun x => ?_
  have hmem : ∀ (k : List UInt8) (o : Option (List UInt8)), (k, o) ∈ cs.map chV ↔ ∃ c ∈ list, chg is c = true ∧ asC c = (k, o) := fun k o => by
    rw [he]
    simp only [List.mem_map, List.mem_filter, hp.mem_iff]
    constructor
    · rintro ⟨c, ⟨h1, h2⟩, h3⟩; exact ⟨c, h1, h2, h3⟩
    · rintro ⟨c, h1, h2, h3⟩; exact ⟨c, ⟨h1, h2⟩, h3⟩
  have huniq : ∀ a b : Cg, a ∈ list → b ∈ list → a.key = b.key → a = b := fun a b ha hb e => nodup_key hn a ha b hb e
  have hval : ∀ a b : KV, a ∈ is.map kv → b ∈ is.map kv → a.1 = b.1 → a = b := fun a b ha hb e => by
    have h1 : (is.map kv).Pairwise fun a b => a.1 ≠ b.1 := by
      have h2 : (is.map kv).Pairwise fun a b => a.1 < b.1 := up_kv hu
      refine h2.imp ?_
      intro a b h e
      rw [e] at h
      exact klt_irrefl b.1 h
    exact nodup_key (f := Prod.fst) (List.pairwise_map.2 h1) a ha b hb e
  rw [mem_tapp list hn]
  constructor
  · intro hx
    obtain ⟨i, hi, rfl⟩ := List.mem_map.1 hx
    rcases (mem_mrg cs is hcu i).1 hi with ⟨c, hc, h1⟩ | ⟨h1, h2⟩
    · have h2 := hco c hc i h1
      obtain ⟨d, hd, h3, h4⟩ := (hmem c.1 (c.2.map Itm.val)).1 (List.mem_map.2 ⟨c, hc, rfl⟩)
      rw [h1] at h4
      unfold asC at h4
      injection h4 with h5 h6
      cases hg : d.gone with
      | true => simp [hg] at h6
      | false =>
        simp [hg] at h6
        refine .inl ⟨d, hd, hg, ?_⟩
        unfold kv
        rw [h2, h5, h6]
    · by_cases hex : ∃ c ∈ list, c.key = i.key
      · obtain ⟨c, hc, hk⟩ := hex
        have hnc : chg is c ≠ true := fun h => by
          obtain ⟨d, hd, h3⟩ := List.mem_map.1 ((hmem c.key (asC c).2).2 ⟨c, hc, h, rfl⟩)
          have h4 : d.1 = c.key := by unfold chV at h3; injection h3
          exact h2 d hd (by rw [h4, hk])
        unfold chg at hnc
        cases hg : c.gone with
        | true =>
          exfalso
          simp only [hg, if_true] at hnc
          exact hnc (decide_eq_true (by rw [hk]; exact List.mem_map_of_mem h1))
        | false =>
          simp only [hg, Bool.false_eq_true, if_false] at hnc
          have hnc : (c.key, c.val) ∈ is.map kv := Classical.byContradiction fun h => hnc (decide_eq_true h)
          exact .inl ⟨c, hc, hg, hval _ _ (List.mem_map_of_mem h1) hnc (by show i.key = c.key; exact hk.symm)⟩
      · exact .inr ⟨List.mem_map_of_mem h1, fun c hc e => hex ⟨c, hc, e⟩⟩
  · rintro (⟨c, hc, hg, rfl⟩ | ⟨h1, h2⟩)
    · by_cases hch : chg is c = true
      · obtain ⟨d, hd, h3⟩ := List.mem_map.1 ((hmem c.key (some c.val)).2 ⟨c, hc, hch, by unfold asC; simp [hg]⟩)
        unfold chV at h3
        injection h3 with h4 h5
        cases hi : d.2 with
        | none => simp [hi] at h5
        | some i =>
          simp [hi] at h5
          refine List.mem_map.2 ⟨i, (mem_mrg cs is hcu i).2 (.inl ⟨d, hd, hi⟩), ?_⟩
          unfold kv
          rw [hco d hd i hi, h4, h5]
      · have hin : (c.key, c.val) ∈ is.map kv := by
          unfold chg at hch
          simp only [hg, Bool.false_eq_true, if_false, decide_eq_true_eq, Classical.not_not] at hch
          exact hch
        obtain ⟨i, hi, hik⟩ := List.mem_map.1 hin
        refine List.mem_map.2 ⟨i, (mem_mrg cs is hcu i).2 (.inr ⟨hi, fun d hd e => ?_⟩), hik⟩
        obtain ⟨c', hc', h3, h4⟩ := (hmem d.1 (d.2.map Itm.val)).1 (List.mem_map.2 ⟨d, hd, rfl⟩)
        unfold asC at h4
        injection h4 with h5 _
        have h6 : i.key = c.key := congrArg Prod.fst hik
        have := huniq c' c hc' hc (by rw [h5, e, h6])
        subst this
        exact hch h3
    · obtain ⟨i, hi, hik⟩ := List.mem_map.1 h1
      refine List.mem_map.2 ⟨i, (mem_mrg cs is hcu i).2 (.inr ⟨hi, fun d hd e => ?_⟩), hik⟩
      obtain ⟨c', hc', h3, h4⟩ := (hmem d.1 (d.2.map Itm.val)).1 (List.mem_map.2 ⟨d, hd, rfl⟩)
      unfold asC at h4
      injection h4 with h5 _
      refine h2 c' hc' ?_
      rw [h5, e, ← hik]
      rfl
/-- A list with a key that is none, or with one key twice. -/
def BadQ (l : List Cg) : Prop := (∃ c ∈ l, c.key.length = 0 ∨ 64 < c.key.length) ∨ ¬ (l.map Cg.key).Nodup
def LongQ (l : List Cg) : Prop := ∃ c ∈ l, 20000 < c.val.length
/-- What stands against a list. -/
def WrongIs (l : List Cg) (e : Int) : Prop := (BadQ l ∧ e = 1) ∨ (¬ BadQ l ∧ LongQ l ∧ e = 4) ∨ (¬ BadQ l ∧ ¬ LongQ l ∧ e = 0)
theorem WrongIs.one {l : List Cg} {e e' : Int} (h : WrongIs l e) (h' : WrongIs l e') : e = e' := by
  rcases h with ⟨h1, rfl⟩ | ⟨h1, h2, rfl⟩ | ⟨h1, h2, rfl⟩ <;> rcases h' with ⟨g1, rfl⟩ | ⟨g1, g2, rfl⟩ | ⟨g1, g2, rfl⟩ <;> first | rfl | exact absurd g1 h1 | exact absurd h1 g1 | exact absurd g2 h2 | exact absurd h2 g2
theorem BadQ.perm {l m : List Cg} (h : l.Perm m) (hb : BadQ l) : BadQ m := by
  rcases hb with ⟨c, hc, hk⟩ | hb
  · exact .inl ⟨c, h.mem_iff.1 hc, hk⟩
  · exact .inr fun hn => hb (((h.map Cg.key).nodup_iff).2 hn)
theorem WrongIs.perm {l m : List Cg} {e : Int} (h : l.Perm m) (hw : WrongIs l e) : WrongIs m e := by
  have hL : LongQ l ↔ LongQ m := ⟨fun ⟨c, hc, hk⟩ => ⟨c, h.mem_iff.1 hc, hk⟩, fun ⟨c, hc, hk⟩ => ⟨c, h.mem_iff.2 hc, hk⟩⟩
  rcases hw with ⟨h1, h2⟩ | ⟨h1, h2, h3⟩ | ⟨h1, h2, h3⟩
  · exact .inl ⟨h1.perm h, h2⟩
  · exact .inr (.inl ⟨fun hb => h1 (hb.perm h.symm), hL.1 h2, h3⟩)
  · exact .inr (.inr ⟨fun hb => h1 (hb.perm h.symm), fun hl => h2 (hL.2 hl), h3⟩)
theorem WrongIs.zero {l : List Cg} (h : WrongIs l 0) : (l.map Cg.key).Nodup ∧ ∀ c ∈ l, 1 ≤ c.key.length ∧ c.key.length ≤ 64 ∧ c.val.length ≤ 20000 := by
  rcases h with ⟨_, h⟩ | ⟨_, _, h⟩ | ⟨h1, h2, _⟩
  · omega
  · omega
  · refine ⟨Classical.byContradiction fun hn => h1 (.inr hn), fun c hc => ⟨?_, ?_, ?_⟩⟩
    · exact Nat.pos_of_ne_zero fun e => h1 (.inl ⟨c, hc, .inl e⟩)
    · exact Nat.not_lt.1 fun e => h1 (.inl ⟨c, hc, .inr e⟩)
    · exact Nat.not_lt.1 fun e => h2 ⟨c, hc, e⟩
theorem tset_len (T : List KV) (c : Cg) : (tset T c).length ≤ T.length + 1 := by
  unfold tset
  have h : ∀ l : List KV, (l.filter (fun x => decide (x.1 < c.key))).length + (l.filter (fun x => decide (c.key < x.1))).length ≤ l.length := by
    intro l
    induction l with
    | nil => simp
    | cons a l ih =>
      by_cases h1 : a.1 < c.key
      · have h2 := klt_asymm h1
        simp only [List.filter_cons, h1, h2, decide_true, decide_false, if_true, List.length_cons]
        simp
        omega
      · by_cases h2 : c.key < a.1
        · simp only [List.filter_cons, h1, h2, decide_true, decide_false, if_true, List.length_cons]
          simp
          omega
        · simp only [List.filter_cons, h1, h2, decide_false, List.length_cons]
          simp
          omega
  have := h T
  rw [List.length_append, List.length_append]
  have : (if c.gone then [] else [(c.key, c.val)] : List KV).length ≤ 1 := by split <;> simp
  omega
theorem tapp_len : ∀ (cs : List Cg) (T : List KV), (tapp T cs).length ≤ T.length + cs.length
  | [], T => by simp [tapp]
  | c :: cs, T => by
    have h1 := tapp_len cs (tset T c)
    have h2 := tset_len T c
    rw [tapp_cons, List.length_cons]
    omega
end Go.Proofs.YtgpbhlfdlkemjaaGreat
