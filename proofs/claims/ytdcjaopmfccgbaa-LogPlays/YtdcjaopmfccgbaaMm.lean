/-
  A Log in memory; add: one unit more.
-/
import Derived.Test.YtdcjaopmfccgbaaPIn
namespace Go.Proofs.Ytdcjaopmfccgbaa
open Go.RowKit
set_option linter.unusedVariables false

theorem inf35 : (Try.prog.info? 35).map (fun i => (i.zero, i.size, i.bytes)) = some (some (.slice none 0 0), 1, 24) := by kernel_rfl
/-- The blocks that slices lie in. -/
def obs (vs : List Value) : List Nat := vs.flatMap fun v => v.ownBlock.toList
theorem mem_obs {vs : List Value} {x : Nat} : x ∈ obs vs ↔ ∃ v ∈ vs, v.ownBlock = some x := by simp [obs, List.mem_flatMap, Option.mem_toList]
/-- A Log at block p, of the disk at q; the blocks that are its own are G. -/
def IsL (w : World) (G : List Nat) (p q fr ct ep : Nat) (us : List (List UInt8)) (used : Nat) (over : Bool) : Prop :=
  ∃ vu vs, G = p :: (vu.ownBlock.toList ++ obs vs) ∧
    w.heap[p]? = some (.cells #[.pointer (some ⟨q, 0, none⟩), .int .i64 (fr : Int), .int .i64 (ct : Int), .int .u64 (ep : Int), vu, .int .i64 (used : Int), .bool over] 58 (0, 0)) ∧
    w.ownsRow 0 35 1 vu us.length vs ∧ (∀ (k : Nat) (l : List UInt8), us[k]? = some l → ∃ v, vs[k]? = some v ∧ Reads w v l) ∧ (∀ v ∈ vs, v.oneCell' = true) ∧ (∀ v ∈ vs, ∀ g, v.ownBlock = some g → g < w.heap.size ∧ g ≠ p ∧ vu.ownBlock ≠ some g) ∧ vu.ownBlock ≠ some p
section
variable {w w' : World} {G S : List Nat} {p q fr ct ep : Nat} {us : List (List UInt8)} {used : Nat} {over : Bool}
theorem IsL.kept (h : IsL w G p q fr ct ep us used over) (k : Kept S w w') (hn : ∀ x ∈ G, x ∉ S) : IsL w' G p q fr ct ep us used over := by
  obtain ⟨vu, vs, rfl, h1, h2, h3, h4, h5, h6⟩ := h
  refine ⟨vu, vs, rfl, k.keeps h1 (hn p (by simp)), ownsRow_keep h2 k (fun x hx => hn x (by simp [hx])), fun i l hl => ?_, h4, fun v hv g hg => ⟨Nat.lt_of_lt_of_le (h5 v hv g hg).1 k.size, (h5 v hv g hg).2⟩, h6⟩
  obtain ⟨v, hv, hr⟩ := h3 i l hl
  exact ⟨v, hv, hr.kept k (fun g hg => hn g (by simp [mem_obs]; exact .inr (.inr ⟨v, List.mem_of_getElem? hv, hg⟩)))⟩
theorem IsL.lt (h : IsL w G p q fr ct ep us used over) : ∀ x ∈ G, x < w.heap.size := by
  obtain ⟨vu, vs, rfl, h1, h2, h3, h4, h5, h6⟩ := h
  intro x hx
  simp only [List.mem_cons, List.mem_append, Option.mem_toList, mem_obs] at hx
  rcases hx with rfl | hx | ⟨v, hv, hx⟩
  · exact lt_of_block h1
  · exact (World.ownsRow.lt h2 x hx).2
  · exact (h5 v hv x hx).1
theorem IsL.pG (h : IsL w G p q fr ct ep us used over) : p ∈ G := by
  obtain ⟨vu, vs, rfl, _⟩ := h
  simp
theorem IsL.cells (h : IsL w G p q fr ct ep us used over) : w.cell? ⟨p, 0, none⟩ = some (.pointer (some ⟨q, 0, none⟩)) ∧ w.cell? ⟨p, 1, none⟩ = some (.int .i64 (fr : Int)) ∧ w.cell? ⟨p, 2, none⟩ = some (.int .i64 (ct : Int)) ∧ w.cell? ⟨p, 3, none⟩ = some (.int .u64 (ep : Int)) ∧ w.cell? ⟨p, 5, none⟩ = some (.int .i64 (used : Int)) ∧ w.cell? ⟨p, 6, none⟩ = some (.bool over) := by
  obtain ⟨vu, vs, rfl, h1, _⟩ := h
  simp [World.cell?, h1]
theorem IsL.free (h : IsL w G p q fr ct ep us used over) (j : Nat) : w.frozen? ⟨p, j, none⟩ = false := by
  obtain ⟨vu, vs, rfl, h1, _⟩ := h
  simp [World.frozen?, h1]
theorem IsL.vlen (h : IsL w G p q fr ct ep us used over) : ∃ vu vs, w.cell? ⟨p, 4, none⟩ = some vu ∧ w.ownsRow 0 35 1 vu us.length vs ∧ vs.length = us.length ∧ (∀ (k : Nat) (l : List UInt8), us[k]? = some l → ∃ v, vs[k]? = some v ∧ Reads w v l) := by
  obtain ⟨vu, vs, rfl, h1, h2, h3, _⟩ := h
  exact ⟨vu, vs, by simp [World.cell?, h1], h2, by have := h2.1; omega, h3⟩
theorem IsL.new (w : World) (q fr ct ep : Nat) : IsL (w.alloc (.cells #[.pointer (some ⟨q, 0, none⟩), .int .i64 (fr : Int), .int .i64 (ct : Int), .int .u64 (ep : Int), .slice none 0 0, .int .i64 0, .bool false] 58)) [w.heap.size] w.heap.size q fr ct ep [] 0 false :=
  ⟨.slice none 0 0, [], rfl, heap_alloc_new w _, World.ownsRow_nil _ 0 35 1, fun k l h => by simp at h, by simp, by simp, by simp [Value.ownBlock]⟩
theorem IsL.setOver (h : IsL w G p q fr ct ep us used over) (b : Bool) : IsL (w.setCell ⟨p, 6, none⟩ (.bool b)) G p q fr ct ep us used b ∧ Kept [p] w (w.setCell ⟨p, 6, none⟩ (.bool b)) := by
  have k : Kept [p] w (w.setCell ⟨p, 6, none⟩ (.bool b)) := (Kept.refl [p] w).setCell (.inl (by simp)) _
  refine ⟨?_, k⟩
  obtain ⟨vu, vs, rfl, h1, h2, h3, h4, h5, h6⟩ := h
  refine ⟨vu, vs, rfl, by rw [heap_setCell_same w p 6 _ 58 _ h1]; rfl, ownsRow_keep h2 k (fun x hx => by simp; intro e; subst e; exact h6 hx), fun i l hl => ?_, h4, fun v hv g hg => ⟨Nat.lt_of_lt_of_le (h5 v hv g hg).1 k.size, (h5 v hv g hg).2⟩, h6⟩
  obtain ⟨v, hv, hr⟩ := h3 i l hl
  exact ⟨v, hv, hr.kept k (fun g hg => by simp; exact (h5 v (List.mem_of_getElem? hv) g hg).2.1)⟩
theorem IsL.setUsed (h : IsL w G p q fr ct ep us used over) (n : Nat) : IsL (w.setCell ⟨p, 5, none⟩ (.int .i64 (n : Int))) G p q fr ct ep us n over ∧ Kept [p] w (w.setCell ⟨p, 5, none⟩ (.int .i64 (n : Int))) := by
  have k : Kept [p] w (w.setCell ⟨p, 5, none⟩ (.int .i64 (n : Int))) := (Kept.refl [p] w).setCell (.inl (by simp)) _
  refine ⟨?_, k⟩
  obtain ⟨vu, vs, rfl, h1, h2, h3, h4, h5, h6⟩ := h
  refine ⟨vu, vs, rfl, by rw [heap_setCell_same w p 5 _ 58 _ h1]; rfl, ownsRow_keep h2 k (fun x hx => by simp; intro e; subst e; exact h6 hx), fun i l hl => ?_, h4, fun v hv g hg => ⟨Nat.lt_of_lt_of_le (h5 v hv g hg).1 k.size, (h5 v hv g hg).2⟩, h6⟩
  obtain ⟨v, hv, hr⟩ := h3 i l hl
  exact ⟨v, hv, hr.kept k (fun g hg => by simp; exact (h5 v (List.mem_of_getElem? hv) g hg).2.1)⟩
/-- Another epoch, without units. -/
theorem IsL.reset (h : IsL w G p q fr ct ep us used over) (e : Nat) : IsL (((w.setCell ⟨p, 3, none⟩ (.int .u64 (e : Int))).setCell ⟨p, 4, none⟩ (.slice none 0 0)).setCell ⟨p, 5, none⟩ (.int .i64 0)) [p] p q fr ct e [] 0 over ∧ Kept [p] w (((w.setCell ⟨p, 3, none⟩ (.int .u64 (e : Int))).setCell ⟨p, 4, none⟩ (.slice none 0 0)).setCell ⟨p, 5, none⟩ (.int .i64 0)) := by
  refine ⟨?_, (((Kept.refl [p] w).setCell (.inl (by simp)) _).setCell (.inl (by simp)) _).setCell (.inl (by simp)) _⟩
  obtain ⟨vu, vs, rfl, h1, h2, h3, h4, h5, h6⟩ := h
  exact ⟨.slice none 0 0, [], rfl, by rw [heap_setCell_same _ p 5 _ 58 _ (heap_setCell_same _ p 4 _ 58 _ (heap_setCell_same w p 3 _ 58 _ h1))]; rfl, World.ownsRow_nil _ 0 35 1, fun k l h => by simp at h, by simp, by simp, by simp [Value.ownBlock]⟩
end
theorem run_appendL (w : World) (ty : TypeId) (v : Value) (n : Nat) (vs : List Value) (hown : w.ownsRow 0 35 1 v n vs) (b : Nat) (u : Value) (hu : w.cell? ⟨b, 0, none⟩ = some u) (h1 : u.oneCell' = true) (hb : n ≤ 4294967296) :
    ∃ ad n' cap w', (Builtin.append_ #[46, 46] ty #[v, .slice (some ⟨b, 0, none⟩) 1 1]).run Try.prog w = .ok (.slice ad n' cap) w' ∧ w'.ownsRow 0 35 1 (.slice ad n' cap) (n + 1) (vs ++ [u]) ∧ w.grownBy w' v.ownBlock ∧ New w v (.slice ad n' cap) := by
  obtain ⟨i0, hi, hz0, hz1, hz2⟩ := info_parts inf35
  obtain ⟨v', w', hrun, e1, e2, e3, e4⟩ := run_append_own_at (P := Try.prog) w 0 46 ty 35 i0 _ 1 24 Try.underlying46 hi hz0 hz1 hz2 rfl (by omega) v n vs hown ⟨b, 0, none⟩ 1 1 [u] rfl (fun j x hx => by
    cases j with
    | zero => simp at hx; subst hx; simpa [Addr.add] using hu
    | succ j => simp at hx) (by simp [h1]) (by unfold maxLen; omega) (by omega) (Nat.zero_le _)
  obtain ⟨ad, cap, rfl⟩ : ∃ ad cap, v' = .slice ad (n + 1) cap := by
    rcases e1.2 with ⟨rfl, h0⟩ | ⟨g, cap, cur, rfl, _⟩
    · omega
    · exact ⟨_, cap, rfl⟩
  refine ⟨ad, _, cap, w', hrun, e1, e2, fun g hg => ?_⟩
  rcases e4 with h | h
  · exact .inl (by rw [← h]; exact hg)
  · exact .inr (Nat.le_of_eq (Option.some.inj (h.symm.trans hg)))
theorem wpList_append_run {w : World} {ops : Array Oper} {rest : List Oper} {o : Oper} {a : Act} {Q : Exit → Act → World → Prop} (t : TypeId) (sl x : Operand)
    (ho : o.op = .call { callee := .builtin .append, args := #[sl, x], argTypes := #[t, t] }) (hgd : Region.wanted o (yielded ops a.tmps) = true) (v y : Value) (hs : a.eval sl = v) (hx : a.eval x = y) (r : Value) (w' : World) (hrun : (Builtin.append_ #[t, t] o.type #[v, y]).run Try.prog w = .ok r w')
    (h : wpList Try.prog ops Q rest (a.put o.dst r) w') : wpList Try.prog ops Q (o :: rest) a w := by
  refine wpList_step fun K hK => ?_
  rw [if_pos hgd]
  unfold Oper.wp execOp
  simp only [ho, resolve, invoke, builtin, Sem.run_bind, Sem.run_pure, Result.andThen_ok, List.map_toArray, List.map_cons, List.map_nil, hs, hx, hrun]
  exact hK _ _ h
/-- One slice more, behind the others. -/
theorem IsL.grow {w w1 w2 : World} {G : List Nat} {p q fr ct ep : Nat} {us : List (List UInt8)} {used : Nat} {over : Bool} {vu : Value} {vs : List Value} {ad : Option Addr} {n c : Nat} {v : Value} {l : List UInt8} (hG : G = p :: (vu.ownBlock.toList ++ obs vs))
    (hbox : w.heap[p]? = some (.cells #[.pointer (some ⟨q, 0, none⟩), .int .i64 (fr : Int), .int .i64 (ct : Int), .int .u64 (ep : Int), vu, .int .i64 (used : Int), .bool over] 58 (0, 0))) (h3 : ∀ (k : Nat) (l : List UInt8), us[k]? = some l → ∃ v, vs[k]? = some v ∧ Reads w v l) (h4 : ∀ v ∈ vs, v.oneCell' = true) (h5 : ∀ v ∈ vs, ∀ g, v.ownBlock = some g → g < w.heap.size ∧ g ≠ p ∧ vu.ownBlock ≠ some g) (h6 : vu.ownBlock ≠ some p) (hvl : vs.length = us.length)
    (hr : Reads w v l) (hv : ∀ g, v.ownBlock = some g → g < w.heap.size ∧ g ∉ G) (hv1 : v.oneCell' = true) (k1 : Kept [] w w1) (ho : w2.ownsRow 0 35 1 (.slice ad n c) (us.length + 1) (vs ++ [v])) (hg : w1.grownBy w2 vu.ownBlock) (hN : New w1 vu (.slice ad n c)) :
    (∃ G', IsL (w2.setCell ⟨p, 4, none⟩ (.slice ad n c)) G' p q fr ct ep (us ++ [l]) used over ∧ (∀ x ∈ G', x ∈ G ∨ v.ownBlock = some x ∨ w.heap.size ≤ x)) ∧ Kept G w (w2.setCell ⟨p, 4, none⟩ (.slice ad n c)) ∧ w2.cell? ⟨p, 4, none⟩ = some vu ∧ w2.frozen? ⟨p, 4, none⟩ = false := by
  have hplt := lt_of_block hbox
  have hbox1 := k1.keeps hbox (by simp)
  have hbox2 : w2.heap[p]? = some (.cells #[.pointer (some ⟨q, 0, none⟩), .int .i64 (fr : Int), .int .i64 (ct : Int), .int .u64 (ep : Int), vu, .int .i64 (used : Int), .bool over] 58 (0, 0)) := by
    rw [hg.block p (Nat.lt_of_lt_of_le hplt k1.size) (fun h => h6 h.symm)]
    exact hbox1
  have kk : Kept vu.ownBlock.toList w w2 := (k1.mono (by simp)).grown hg (fun x hx => .inl (by rw [Option.mem_toList]; exact hx))
  have ks : Kept (p :: vu.ownBlock.toList) w (w2.setCell ⟨p, 4, none⟩ (.slice ad n c)) := (kk.mono (fun x hx => .inl (by simp at hx; simp [hx]))).setCell (.inl (by simp)) _
  have k2 : Kept [p] w2 (w2.setCell ⟨p, 4, none⟩ (.slice ad n c)) := (Kept.refl [p] w2).setCell (.inl (by simp)) _
  have hne : (Value.slice ad n c).ownBlock ≠ some p := fun h => by
    rcases hN p h with h | h
    · exact h6 h
    · have := k1.size; omega
  refine ⟨⟨_, ⟨.slice ad n c, vs ++ [v], rfl, by rw [heap_setCell_same w2 p 4 _ 58 _ hbox2]; rfl, ?_, ?_, ?_, ?_, hne⟩, ?_⟩, ?_, by simp [World.cell?, hbox2], by simp [World.frozen?, hbox2]⟩
  · rw [List.length_append]
    exact ownsRow_keep ho k2 (fun x hx => by simp; intro e; subst e; exact hne hx)
  · intro k m hm
    by_cases hk : k < us.length
    · rw [List.getElem?_append_left hk] at hm
      obtain ⟨x, hx, hrx⟩ := h3 k m hm
      refine ⟨x, by rw [List.getElem?_append_left (by omega)]; exact hx, hrx.kept ks fun g hg => ?_⟩
      have := h5 x (List.mem_of_getElem? hx) g hg
      simp only [List.mem_cons, Option.mem_toList]
      rintro (h | h)
      · exact this.2.1 h
      · exact this.2.2 h
    · have hlt := (List.getElem?_eq_some_iff.1 hm).1
      have hk2 : k = us.length := by simp at hlt; omega
      subst hk2
      simp at hm
      subst hm
      refine ⟨v, by rw [← hvl]; simp, hr.kept ks fun g hg hm => (hv g hg).2 (by rw [hG]; simp only [List.mem_cons, Option.mem_toList] at hm; rcases hm with h | h <;> simp [h])⟩
  · intro x hx
    rcases List.mem_append.1 hx with hx | hx
    · exact h4 x hx
    · simp at hx; subst hx; exact hv1
  · intro x hx g hg
    have key : g < w.heap.size → vu.ownBlock ≠ some g → (Value.slice ad n c).ownBlock ≠ some g := fun h1 h2 h => by
      rcases hN g h with h | h
      · exact h2 h
      · have := k1.size; omega
    rcases List.mem_append.1 hx with hx | hx
    · have := h5 x hx g hg
      exact ⟨Nat.lt_of_lt_of_le this.1 ks.size, this.2.1, key this.1 this.2.2⟩
    · simp at hx
      subst hx
      have := hv g hg
      rw [hG] at this
      simp only [List.mem_cons, List.mem_append, Option.mem_toList, not_or] at this
      exact ⟨Nat.lt_of_lt_of_le this.1 ks.size, this.2.1, key this.1 this.2.2.1⟩
  · intro x hx
    simp only [List.mem_cons, List.mem_append, Option.mem_toList, mem_obs] at hx
    rcases hx with rfl | hx | ⟨y, hy, hx⟩
    · exact .inl (by rw [hG]; simp)
    · rcases hN x hx with h | h
      · exact .inl (by rw [hG]; simp [h])
      · exact .inr (.inr (Nat.le_trans k1.size h))
    · rcases hy with hy | hy
      · exact .inl (by rw [hG]; simp only [List.mem_cons, List.mem_append, mem_obs]; exact .inr (.inr ⟨y, hy, hx⟩))
      · simp at hy; subst hy; exact .inr (.inl hx)
  · exact ks.mono (fun x hx => .inl (by rw [hG]; simp only [List.mem_cons, Option.mem_toList] at hx; rcases hx with h | h <;> simp [h]))

set_option maxRecDepth 100000 in
set_option maxHeartbeats 400000 in
/-- add. -/
theorem add_any {w : World} {G : List Nat} {p q fr ct ep : Nat} {us : List (List UInt8)} {used : Nat} {over : Bool} (h : IsL w G p q fr ct ep us used over) (a : Option Addr) (n c : Nat) (l : List UInt8) (hr : Reads w (.slice a n c) l) (hn : l.length = n) (hv : ∀ g, (Value.slice a n c).ownBlock = some g → g < w.heap.size ∧ g ∉ G) (hu : us.length ≤ 1000000) (hul : used ≤ 1000000) (hl : n ≤ 1000000) :
    Calls Try.prog 27 #[.pointer (some ⟨p, 0, none⟩), .slice a n c] w fun e w' => e = .returned (.tuple #[]) ∧ ∃ G', IsL w' G' p q fr ct ep (us ++ [l]) (used + bks l.length) over ∧ Kept G w w' ∧ (∀ x ∈ G', x ∈ G ∨ (Value.slice a n c).ownBlock = some x ∨ w.heap.size ≤ x) := by
  obtain ⟨vu, vs, hG, h1, h2, h3, h4, h5, h6⟩ := h
  have hc4 : w.cell? ⟨p, 4, none⟩ = some vu := by simp [World.cell?, h1]
  have hvl : vs.length = us.length := by have := h2.1; omega
  have k1 : Kept [] w (w.alloc (.cells #[.slice a n c] 35)) := (Kept.refl [] w).alloc _
  have hcell : (w.alloc (.cells #[.slice a n c] 35)).cell? ⟨w.heap.size, 0, none⟩ = some (.slice a n c) := cell_of_one (heap_alloc_new w _)
  obtain ⟨ad, n', c', w2, hrun, e1, e2, e3⟩ := run_appendL (w.alloc (.cells #[.slice a n c] 35)) 46 vu us.length vs (ownsRow_keep h2 k1 (by simp)) w.heap.size _ hcell rfl (by omega)
  obtain ⟨⟨G', hL, hG'⟩, hK, hc, hf⟩ := IsL.grow hG h1 h3 h4 h5 h6 hvl hr hv rfl k1 e1 e2 e3
  obtain ⟨av, cv, rfl⟩ : ∃ av cv, vu = .slice av us.length cv := by
    rcases h2.2 with ⟨rfl, h0⟩ | ⟨g, cap, cur, rfl, _⟩
    · exact ⟨none, 0, by rw [h0]⟩
    · exact ⟨_, cap, rfl⟩
  have hpG : p ∈ G := by rw [hG]; simp
  have HG := Hid.mk hG'
  have HK := Hid.mk hK
  have hlen := Hid.mk hn
  clear hG h1 h2 h3 h4 h5 h6 hr hv e1 e2 e3 hcell k1 hG' hK hn hvl
  go_enter Try.func27, Try.ntmps27
  go_wp2_with (at_builtin; refine wpList_append_run 46 _ _ rfl rfl _ _ rfl rfl _ _ hrun ?_)
  generalize w2.setCell ⟨p, 4, none⟩ (.slice ad n' c') = w3 at hL HK
  clear hc hf hrun hc4
  have hbk := fun W => bks_any n (by omega) W
  obtain ⟨-, -, -, -, d5, -⟩ := hL.cells
  have f5 := hL.free 5
  obtain ⟨hL2, k2⟩ := hL.setUsed (used + bks l.length)
  have hwr : IntKind.i64.wrap ((used : Int) + (bks n : Int)) = ((used + bks l.length : Nat) : Int) := by
    rw [hlen.out]
    have hb : bks n ≤ 1000000 := by unfold bks; omega
    rw [IntKind.wrap_i64]
    omega
  have hfin : Hid (∃ G', IsL (w3.setCell ⟨p, 5, none⟩ (.int .i64 ((used + bks l.length : Nat) : Int))).drew G' p q fr ct ep (us ++ [l]) (used + bks l.length) over ∧ Kept G w (w3.setCell ⟨p, 5, none⟩ (.int .i64 ((used + bks l.length : Nat) : Int))).drew ∧ (∀ x ∈ G', x ∈ G ∨ (Value.slice a n c).ownBlock = some x ∨ w.heap.size ≤ x)) :=
    ⟨G', hL2.kept (S := []) ((Kept.refl [] _).drew) (by simp), (HK.out.trans k2 (fun x hx => .inl (by simp at hx; rw [hx]; exact hpG))).drew, HG.out⟩
  generalize bks n = B at hbk hwr
  clear hL hL2 k2 HK HG
  rw [Int.natCast_add] at hfin
  go_region_with (go_at_call 25; refine (hbk _).mono ?_; rintro e wx ⟨rfl, rfl⟩)
  all_goals
    go_end0
    exact ⟨rfl, hfin.out⟩
end Go.Proofs.Ytdcjaopmfccgbaa
