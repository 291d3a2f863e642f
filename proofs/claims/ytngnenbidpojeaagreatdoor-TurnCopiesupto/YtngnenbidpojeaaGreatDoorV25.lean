import Derived.Deep.QuietTactic
import Derived.BigQuiet
import Derived.Deep.RegionHeld3
import Derived.Deep.RegionLaw
import Derived.Deep.DrawnRows
import Derived.Test.YtngnenbidpojeaaGreatDoorV20
import Derived.Test.YtngnenbidpojeaaGreatDoorV24
/-
  Programs in memory: rows of names and rows of instructions.
-/
namespace Go.Proofs.YtngnenbidpojeaaGreatDoor
open Go.RowKit
set_option maxRecDepth 100000
def rowN (N : List (List UInt8)) : List (List Value) := N.map fun s => [.string ⟨s.toArray⟩]
def rowI (C : List In) : List (List Value) := C.map fun x => [.int .i64 x.op, .int .i64 x.arg]
theorem rowN_length (N : List (List UInt8)) : (rowN N).length = N.length := by simp [rowN]
theorem rowI_length (C : List In) : (rowI C).length = C.length := by simp [rowI]
theorem wideN (N : List (List UInt8)) : Wide 1 (rowN N) := fun r hr => by
  obtain ⟨s, -, rfl⟩ := List.mem_map.1 hr
  exact ⟨rfl, fun u hu => by simp at hu; subst hu; rfl⟩
theorem wideI (C : List In) : Wide 2 (rowI C) := fun r hr => by
  obtain ⟨s, -, rfl⟩ := List.mem_map.1 hr
  exact ⟨rfl, fun u hu => by simp at hu; rcases hu with rfl | rfl <;> rfl⟩
/-- A program in memory: its names' row and its instructions'. -/
structure IsP_N (w : World) (v u : Value) (p : Pg) : Prop where
  names : ReadsR 1 w v (rowN p.names)
  code : ReadsR 2 w u (rowI p.code)
theorem ReadsR.keep {k : Nat} {w w' : World} {v : Value} {rs : List (List Value)} (h : ReadsR k w v rs) (kk : Kept [] w w') : ReadsR k w' v rs := h.kept kk (by simp)
theorem IsP_N.keep {w w' : World} {v u : Value} {p : Pg} (h : IsP_N w v u p) (k : Kept [] w w') : IsP_N w' v u p := ⟨h.names.keep k, h.code.keep k⟩
theorem IsP_N.form {w : World} {v u : Value} {p : Pg} (h : IsP_N w v u p) : ∃ a c b d, v = .slice a p.names.length c ∧ u = .slice b p.code.length d ∧ p.names.length ≤ 9223372036854775807 ∧ p.code.length ≤ 9223372036854775807 := by
  obtain ⟨a, c, e, h1, h2⟩ := h.names.form
  obtain ⟨b, d, e', h1', h2'⟩ := h.code.form
  rw [rowN_length] at e h1
  rw [rowI_length] at e' h1'
  exact ⟨a, c, b, d, e, e', by omega, by omega⟩
/-- The cell of a name. -/
theorem names_at {w : World} {a : Option Addr} {n c : Nat} {N : List (List UInt8)} (h : ReadsR 1 w (.slice a n c) (rowN N)) {j : Nat} (hj : j < N.length) : ∃ b o, a = some ⟨b, o, none⟩ ∧ w.cell? ⟨b, o + j, none⟩ = some (.string ⟨N[j].toArray⟩) := by
  obtain ⟨b, o, c', e, hc⟩ := h.at j [.string ⟨N[j].toArray⟩] (by simp [rowN, hj])
  simp only [Value.slice.injEq] at e
  refine ⟨b, o, e.1, ?_⟩
  have := hc 0 _ rfl
  simpa using this
/-- The cells of an instruction. -/
theorem code_at {w : World} {a : Option Addr} {n c : Nat} {C : List In} (h : ReadsR 2 w (.slice a n c) (rowI C)) {j : Nat} (hj : j < C.length) : ∃ b o, a = some ⟨b, o, none⟩ ∧ w.cell? ⟨b, o + j * 2, none⟩ = some (.int .i64 C[j].op) ∧ w.cell? ⟨b, o + j * 2 + 1, none⟩ = some (.int .i64 C[j].arg) := by
  obtain ⟨b, o, c', e, hc⟩ := h.at j [.int .i64 C[j].op, .int .i64 C[j].arg] (by simp [rowI, hj])
  simp only [Value.slice.injEq] at e
  exact ⟨b, o, e.1, hc 0 _ rfl, hc 1 _ rfl⟩
/-- Where an operation's row lies. -/
theorem op_at {w : World} (h : Glob w) {i : Nat} (hi : i < 24) : ∃ s k, words[i]? = some (s, k) ∧ k ≤ 5 ∧ w.cell? ⟨0, 2 * i, none⟩ = some (.string ⟨s.toArray⟩) ∧ w.cell? ⟨0, 2 * i + 1, none⟩ = some (.int .i64 (k : Int)) := by
  have hl : i < words.length := hi
  have e : words[i]? = some (words[i].1, words[i].2) := by rw [List.getElem?_eq_getElem hl]
  have hk : ∀ x ∈ words, x.2 ≤ 5 := by decide
  exact ⟨_, _, e, hk _ (List.getElem_mem hl), h.ops i _ _ e⟩
/-- How many integers may stand there. -/
def choiceN (nn nc k : Nat) : Int := if k = 2 then 8 else if k = 3 then 4 else if k = 4 then (nc : Int) + 1 else if k = 5 then (nn : Int) else 1
theorem choice_most {nn nc k : Nat} (hk : k ≤ 5) (h1 : k ≠ 1) : choiceN nn nc k = mostI nn nc k + 1 := by
  unfold choiceN mostI
  match k, hk, h1 with
  | 0, _, _ => rfl
  | 2, _, _ => rfl
  | 3, _, _ => rfl
  | 4, _, _ => rfl
  | 5, _, _ => simp
theorem okI_at {nn nc i k : Nat} {s : List UInt8} {x : In} (ho : x.op = (i : Int)) (h : words[i]? = some (s, k)) (hk : k ≤ 5) : okI nn nc x = (decide (k = 1) || (decide (0 ≤ x.arg) && decide (x.arg < choiceN nn nc k))) := by
  unfold okI
  rw [ho, Int.toNat_natCast, h]
  dsimp only
  rw [show decide (0 ≤ (i : Int)) = true by simp, Bool.true_and]
  by_cases h1 : k = 1
  · subst h1; rfl
  · rw [choice_most hk h1]
    congr 2
    simp
    omega
theorem okI_out {nn nc : Nat} {x : In} (h : x.op < 0 ∨ 24 ≤ x.op) : okI nn nc x = false := by
  unfold okI
  rcases h with h | h
  · split
    · simp; omega
    · rfl
  · rw [List.getElem?_eq_none (by rw [words_length]; omega)]
end Go.Proofs.YtngnenbidpojeaaGreatDoor
/-
  Drawn regions whose calls only make memory: the quiet walk over the worlds that kept all of another.
-/
namespace Go.Proofs.YtngnenbidpojeaaGreatDoor
open Go.RowKit
set_option maxRecDepth 100000
theorem Kept.then {a b c : World} (h : Kept [] a b) (k : Kept [] b c) : Kept [] a c := h.trans k (by simp)
end Go.Proofs.YtngnenbidpojeaaGreatDoor
/-
  Rows that grow by append, and a program that is built of two of them.
-/
namespace Go.Proofs.YtngnenbidpojeaaGreatDoor
open Go.RowKit
set_option maxRecDepth 100000
set_option linter.unusedVariables false
theorem rt22 : RowT 22 9 1 16 (.string ⟨#[]⟩) := ⟨Tryz.underlying22, by kernel_rfl, rfl, by omega, by omega⟩
theorem rt31 : RowT 42 83 2 16 (.agg #[.int .i64 0, .int .i64 0]) := ⟨Tryz.underlying42, by kernel_rfl, rfl, by omega, by omega⟩
/-- A row that grows, new since w; nothing elder was turned. -/
structure Out (e : TypeId) (k : Nat) (w wr : World) (u : Value) (rs : List (List Value)) : Prop where
  own : OwnsR e k wr u rs
  new : ∀ g, u.ownBlock = some g → w.heap.size ≤ g
  kept : Kept [] w wr
section
variable {T e : TypeId} {k b : Nat} {z : Value} {w wr w2 : World} {u : Value} {rs : List (List Value)}
theorem Out.nil (h : Kept [] w wr) : Out e k w wr (.slice none 0 0) [] := ⟨OwnsR.nil e k wr, fun g hg => by simp [Value.ownBlock] at hg, h⟩
theorem Out.keep (h : Out e k w wr u rs) (k2 : Kept [] wr w2) : Out e k w w2 u rs := ⟨h.own.kept k2 (by simp), h.new, h.kept.then k2⟩
theorem Out.form (h : Out e k w wr u rs) : ∃ a c, u = .slice a rs.length c ∧ rs.length ≤ c ∧ c ≤ 9223372036854775807 := h.own.form
theorem Out.more (R : RowT T e k b z) (h : Out e k w wr u rs) (cs : List Value) (hc : cs.length = k) (h1 : ∀ x ∈ cs, x.oneCell' = true) (hl : rs.length ≤ 900000) (t : TypeId) (fr : Nat × Nat) (ty : TypeId) :
    ∃ ad c w2, (Builtin.append_ #[T, T] ty #[u, .slice (some ⟨wr.heap.size, 0, none⟩) 1 1]).run Tryz.prog (wr.alloc (.cells cs.toArray t fr)) = .ok (.slice ad (rs.length + 1) c) w2 ∧ Out e k w w2 (.slice ad (rs.length + 1) c) (rs ++ [cs]) := by
  obtain ⟨ad, c, w2, hrun, hO, k2, hN⟩ := append_rowR R h.own cs hc h1 hl t fr ty
  refine ⟨ad, c, w2, hrun, hO, fun g hg => ?_, h.kept.trans k2 (fun x hx => .inr (h.new x (by simpa using hx)))⟩
  rcases hN g hg with h3 | h3
  · exact h.new g h3
  · exact Nat.le_trans h.kept.size h3
end
/-- A program that is built: the box g, of type T, and its two rows; all new since w. -/
structure PB (T e : TypeId) (w wr : World) (g : Nat) (v u : Value) (p : Pg) : Prop where
  box : wr.heap[g]? = some (.cells #[v, u] T (0, 0))
  names : Out 9 1 w wr v (rowN p.names)
  code : Out e 2 w wr u (rowI p.code)
  hg : w.heap.size ≤ g
section
variable {T e : TypeId} {w wr w2 : World} {g : Nat} {v u : Value} {p : Pg}
theorem PB.kept (h : PB T e w wr g v u p) : Kept [] w wr := h.names.kept
theorem PB.keep (h : PB T e w wr g v u p) (k : Kept [] wr w2) : PB T e w w2 g v u p := ⟨k.keeps h.box (by simp), h.names.keep k, h.code.keep k, h.hg⟩
theorem PB.c0 (h : PB T e w wr g v u p) : wr.cell? ⟨g, 0, none⟩ = some v := by simp [World.cell?, h.box]
theorem PB.c1 (h : PB T e w wr g v u p) : wr.cell? ⟨g, 1, none⟩ = some u := by simp [World.cell?, h.box]
theorem PB.f0 (h : PB T e w wr g v u p) : wr.frozen? ⟨g, 0, none⟩ = false := by simp [World.frozen?, h.box]
theorem PB.f1 (h : PB T e w wr g v u p) : wr.frozen? ⟨g, 1, none⟩ = false := by simp [World.frozen?, h.box]
theorem PB.isP (h : PB T e w wr g v u p) : IsP_N wr v u p := ⟨h.names.own.reads (wideN _), h.code.own.reads (wideI _)⟩
theorem PB.forms (h : PB T e w wr g v u p) : ∃ a c b d, v = .slice a p.names.length c ∧ u = .slice b p.code.length d := by
  obtain ⟨a, c, b, d, h1, h2, -⟩ := h.isP.form
  exact ⟨a, c, b, d, h1, h2⟩
theorem PB.start (k : Kept [] w wr) (hb : wr.heap[g]? = some (.cells #[.slice none 0 0, .slice none 0 0] T (0, 0))) (hg : w.heap.size ≤ g) : PB T e w wr g (.slice none 0 0) (.slice none 0 0) ⟨[], []⟩ :=
  ⟨hb, Out.nil k, Out.nil k, hg⟩
/-- An instruction more. -/
theorem PB.addCode {T' : TypeId} {b : Nat} {z : Value} (R : RowT T' e 2 b z) (he : e ≠ 9) (hTe : T ≠ e) (hT : T ≠ 9) (h : PB T e w wr g v u p) (hl : p.code.length ≤ 900000) (x : In) (t : TypeId) (fr : Nat × Nat) (ty : TypeId) :
    ∃ ad c w2, (Builtin.append_ #[T', T'] ty #[u, .slice (some ⟨wr.heap.size, 0, none⟩) 1 1]).run Tryz.prog (wr.alloc (.cells [Value.int .i64 x.op, .int .i64 x.arg].toArray t fr)) = .ok (.slice ad (p.code.length + 1) c) w2 ∧ w2.cell? ⟨g, 1, none⟩ = some u ∧ w2.frozen? ⟨g, 1, none⟩ = false ∧ PB T e w (w2.setCell ⟨g, 1, none⟩ (.slice ad (p.code.length + 1) c)) g v (.slice ad (p.code.length + 1) c) ⟨p.names, p.code ++ [x]⟩ := by
  have hl' : (rowI p.code).length ≤ 900000 := by rw [rowI_length]; exact hl
  obtain ⟨ad, c, w2, hrun, hO, k2, hN⟩ := append_rowR R h.code.own [.int .i64 x.op, .int .i64 x.arg] rfl (by simp [Value.oneCell']) hl' t fr ty
  rw [rowI_length] at hrun hO hN
  have gv : u.ownBlock ≠ some g := ownsR_ne h.code.own h.box hTe
  have hb2 : w2.heap[g]? = some (.cells #[v, u] T (0, 0)) := k2.keeps h.box (by simpa using gv)
  have hc2 : OwnsR 9 1 w2 v (rowN p.names) := h.names.own.kept k2 (fun g' hg' hm => own_apart h.names.own h.code.own (Ne.symm he) hg' (by simpa using hm))
  have e1 : rowI (p.code ++ [x]) = rowI p.code ++ [[.int .i64 x.op, .int .i64 x.arg]] := by simp [rowI]
  have ks : Kept [g] w2 (w2.setCell ⟨g, 1, none⟩ (.slice ad (p.code.length + 1) c)) := (Kept.refl [g] w2).setCell (.inl (by simp)) _
  have gn : ∀ g', (Value.slice ad (p.code.length + 1) c).ownBlock = some g' → g' ∉ [g] := fun g' hg' hm => by
    simp at hm
    subst hm
    exact ownsR_ne hO hb2 hTe hg'
  have gu : ∀ g', v.ownBlock = some g' → g' ∉ [g] := fun g' hg' hm => by
    simp at hm
    subst hm
    exact ownsR_ne hc2 hb2 hT hg'
  have kw : Kept [] w (w2.setCell ⟨g, 1, none⟩ (.slice ad (p.code.length + 1) c)) := (h.kept.trans k2 (fun x hx => .inr (h.code.new x (by simpa using hx)))).trans ks (fun x hx => .inr (by simp at hx; subst hx; exact h.hg))
  refine ⟨ad, c, w2, hrun, by simp [World.cell?, hb2], by simp [World.frozen?, hb2], ⟨set_at hb2, ⟨hc2.kept ks gu, h.names.new, kw⟩, ⟨?_, fun g' hg' => ?_, kw⟩, h.hg⟩⟩
  · rw [e1]; exact hO.kept ks gn
  · rcases hN g' hg' with h3 | h3
    · exact h.code.new g' h3
    · exact Nat.le_trans h.kept.size h3
end
end Go.Proofs.YtngnenbidpojeaaGreatDoor
/-
  Blocks of two cells; a struct and two values as results.
-/
namespace Go.Proofs.YtngnenbidpojeaaGreatDoor
open Go.RowKit
set_option linter.unusedVariables false
section
variable {w : World} {b : Nat} {v0 v1 x0 x1 : Value} {t : TypeId}
theorem cells2_N (h : w.heap[b]? = some (.cells #[v0, v1] t (0, 0))) : w.cell? ⟨b, 0, none⟩ = some v0 ∧ w.cell? ⟨b, 1, none⟩ = some v1 := by simp [World.cell?, h]
theorem free2 (h : w.heap[b]? = some (.cells #[v0, v1] t (0, 0))) : w.frozen? ⟨b, 0, none⟩ = false ∧ w.frozen? ⟨b, 1, none⟩ = false := by simp [World.frozen?, h]
theorem put2 (h : w.heap[b]? = some (.cells #[v0, v1] t (0, 0))) (x0 x1 : Value) : ∃ W, (w.setCell ⟨b, 0, none⟩ x0).setCell ⟨b, 1, none⟩ x1 = W ∧ Kept [b] w W ∧ W.heap[b]? = some (.cells #[x0, x1] t (0, 0)) := by
  refine ⟨_, rfl, ((Kept.refl [b] w).setCell (.inl (by simp)) _).setCell (.inl (by simp)) _, ?_⟩
  have h1 : (w.setCell ⟨b, 0, none⟩ x0).heap[b]? = some (.cells #[x0, v1] t (0, 0)) := set_at h
  exact set_at h1
end
section
variable {P : Program}
end
end Go.Proofs.YtngnenbidpojeaaGreatDoor
/-
  Theirs: a program laid anew.
-/
namespace Go.Proofs.YtngnenbidpojeaaGreatDoor
open Go.RowKit
set_option maxRecDepth 100000
set_option linter.unusedVariables false
theorem Out.all {T e : TypeId} {k b : Nat} {z : Value} {w wr : World} {u : Value} {rs : List (List Value)} (R : RowT T e k b z) (h : Out e k w wr u rs) (x : Value) (m : List (List Value)) (hm : Wide k m) (hr : ReadsR k wr x m) (hl : rs.length + m.length ≤ 1000000) (ty : TypeId) :
    ∃ ad c w2, (Builtin.append_ #[T, T] ty #[u, x]).run Tryz.prog wr = .ok (.slice ad (rs.length + m.length) c) w2 ∧ Out e k w w2 (.slice ad (rs.length + m.length) c) (rs ++ m) := by
  obtain ⟨ad, c, w2, hrun, hO, hg, hN⟩ := run_appendR R wr ty u rs h.own x m hm hr hl
  have k2 : Kept u.ownBlock.toList wr w2 := ((Kept.refl [] wr).mono (by simp)).grown hg (fun x hx => .inl (by rw [Option.mem_toList]; exact hx))
  refine ⟨ad, c, w2, hrun, hO, fun g hg => ?_, h.kept.trans k2 (fun x hx => .inr (h.new x (by simpa using hx)))⟩
  rcases hN g hg with h3 | h3
  · exact h.new g h3
  · exact Nat.le_trans h.kept.size h3
section
variable {w : World}
set_option maxHeartbeats 4000000 in
theorem theirs11 {v u : Value} {p : Pg} (hP : IsP_N w v u p) (hn : p.names.length ≤ 1000) (hc : p.code.length ≤ 1000) : Calls Tryz.prog 11 #[.agg #[v, u]] w fun e w' => ∃ v' u', e = .returned (.agg #[v', u']) ∧ IsP_N w' v' u' p ∧ Kept [] w w' := by
  obtain ⟨a, c, b, d, rfl, rfl, hl1, hl2⟩ := hP.form
  obtain ⟨W0, e0, k0, hz0, hb0, hb1⟩ := box2 w (.cells #[.slice a p.names.length c, .slice b p.code.length d] 25) (.cells #[.slice none 0 0, .slice none 0 0] 44)
  obtain ⟨y0, y1⟩ := cells2_N hb0
  obtain ⟨W1, e1, k1, hz1, hbn⟩ := box1 W0 (.cells #[] 9)
  have hown : OwnsR 9 1 W1 (.slice (some ⟨W0.heap.size, 0, none⟩) 0 0) [] := ownsR_block (rs := []) hbn (fun r hr => by simp at hr) rfl (by unfold maxLen; omega)
  have hout : Out 9 1 W0 W1 (.slice (some ⟨W0.heap.size, 0, none⟩) 0 0) [] := ⟨hown, fun g hg => by simp [Value.ownBlock] at hg; omega, k1⟩
  obtain ⟨ad, cc, W2, hrun, hO2⟩ := hout.all rt22 (.slice a p.names.length c) (rowN p.names) (wideN _) (hP.names.keep (k0.then k1)) (by rw [rowN_length]; simp; omega) 22
  rw [List.nil_append, rowN_length] at hO2
  have hl0 : ([] : List (List Value)).length = 0 := rfl
  rw [hl0, rowN_length] at hrun
  rw [hl0] at hO2
  rw [Nat.zero_add] at hrun hO2
  have hb0' := hO2.kept.keeps hb0 (by simp)
  obtain ⟨y2, y3⟩ := cells2_N hb0'
  obtain ⟨y4, y5⟩ := cells2_N (k1.keeps hb0 (by simp))
  obtain ⟨W3, e3, k3, hz3, hb3⟩ := box1 W2 (.cells #[.slice ad p.names.length cc, .slice none 0 0] 44)
  have HPB : Hid (PB 44 83 W0 W3 W2.heap.size (.slice ad p.names.length cc) (.slice none 0 0) ⟨p.names, []⟩) := ⟨hb3, hO2.keep k3, Out.nil (hO2.kept.then k3), hO2.kept.size⟩
  obtain ⟨y6, y7⟩ := cells2_N (k3.keeps hb0' (by simp))
  have HE3 := Hid.mk e3
  have hlt2 : w.heap.size < W2.heap.size := lt_of_block hb0'
  clear e3
  have HB0 := Hid.mk hb0
  have HB1 := Hid.mk hb1
  have HK0 := Hid.mk k0
  have HP := Hid.mk (hP.keep k0)
  clear hown hout hO2 hb0' k3 hz3 hb3 k1 hz1 hbn hb0 hb1 k0 hz0 hP
  go_enter Tryz.func11, Tryz.ntmps11
  go_wp2_with (at_builtin; refine wpList_append_run 22 22 (.tmp 5) (.tmp 7) rfl (by rfl) _ _ rfl rfl _ _ hrun ?_)
  rw [HE3.out]
  generalize hgg : W2.heap.size = g at *
  clear hgg hrun
  have HG2 : Hid (∀ W W5, Kept [] W0 W → Kept [w.heap.size + 1] W W5 → Kept [] w W5) := fun W W5 k k5 => (HK0.out.then k).trans k5 (fun y hy => by simp at hy; subst hy; exact .inr (by omega))
  have hg2 : w.heap.size + 1 < W0.heap.size := lt_of_block HB1.out
  have HGG := Hid.mk hg2
  clear hg2
  generalize w.heap.size = g1 at *
  go_loopw [13] (fun i wr => ∃ (j : Nat) (u : Value), i = .int .i64 (j : Int) ∧ j ≤ p.code.length ∧ Hid (PB 44 83 W0 wr g (.slice ad p.names.length cc) u ⟨p.names, p.code.take j⟩)) (fun i _ => p.code.length - (intOf i).toNat)
  case atStart => exact ⟨0, _, rfl, by omega, by simpa using HPB⟩
  case round =>
    obtain ⟨j, u, rfl, hj, HB⟩ := hrel
    have HKr := Hid.mk HB.out.kept
    obtain ⟨va, vc, ua, uc, -, hu⟩ := HB.out.forms
    have hlen : (p.code.take j).length = j := by rw [List.length_take]; omega
    dsimp only at hu
    rw [hlen] at hu
    subst hu
    obtain ⟨x0, x1⟩ := cells2_N (HKr.out.keeps HB0.out (by simp))
    by_cases hlt : j < p.code.length
    · obtain ⟨b1, o1, rfl, hc1, hc2⟩ := code_at (HP.out.code.keep HKr.out) hlt
      have hjI : (j : Int) < (p.code.length : Int) := by omega
      have hj0 : (0 : Int) ≤ (j : Int) := by omega
      have HD := HB.out.keep (Kept.refl [] wr).drew
      obtain ⟨ad2, c2, w2, hrun, r0, r1, hPB⟩ := HD.addCode rt31 (by decide) (by decide) (by decide) (by dsimp only; omega) p.code[j] 83 (0, 0) 42
      dsimp only at hrun r0 r1 hPB
      rw [hlen] at hrun hPB
      have e9 : p.code.take (j + 1) = p.code.take j ++ [p.code[j]] := by rw [List.take_add_one]; simp [hlt]
      rw [← e9] at hPB
      have HN := Hid.mk hPB
      have hrun' : (Builtin.append_ #[42, 42] 42 #[.slice ua j uc, .slice (some ⟨wr.heap.size, 0, none⟩) 1 1]).run Tryz.prog (wr.alloc (.cells #[.int .i64 p.code[j].op, .int .i64 p.code[j].arg] 83)).drew = .ok (.slice ad2 (j + 1) c2) w2 := hrun
      have S0 : wr.drew.cell? ⟨g, 1, none⟩ = some (.slice ua j uc) := HD.c1
      have S1 : (wr.alloc (.cells #[.int .i64 p.code[j].op, .int .i64 p.code[j].arg] 83)).drew.cell? ⟨g, 1, none⟩ = some (.slice ua j uc) := (((Kept.refl [] wr).alloc (.cells #[.int .i64 p.code[j].op, .int .i64 p.code[j].arg] 83)).drew).cell_eq HB.out.c1
      have S2 : wr.drew.cell? ⟨g1, 1, none⟩ = some (.slice (some ⟨b1, o1, none⟩) p.code.length d) := x1
      have S3 : wr.drew.cell? ⟨b1, o1 + j * 2, none⟩ = some (.int .i64 p.code[j].op) := hc1
      have S4 : wr.drew.cell? ⟨b1, o1 + j * 2 + 1, none⟩ = some (.int .i64 p.code[j].arg) := hc2
      clear hPB HD e9 hrun hlen
      generalize p.code[j].op = q1 at *
      generalize p.code[j].arg = q2 at *
      go_wp2_with fail
      go_region_law ((refine step_append_run 42 (.tmp 17) (.tmp 23) (by rfl) (by rfl) _ _ (by rfl) (by rfl) hrun' ?_))
      all_goals
        generalize w2.setCell ⟨g, 1, none⟩ (.slice ad2 (j + 1) c2) = W7 at *
        go_wp2_with fail
        go_roundw
        case rel => exact ⟨j + 1, _, by go_num, by omega, HN⟩
        case measure => simp [intOf]; omega
    · have hje : ¬ (j : Int) < (p.code.length : Int) := by omega
      obtain rfl : j = p.code.length := by omega
      rw [List.take_length] at HB
      have z0 := HB.out.c0
      have z1 := HB.out.c1
      have hbr := HKr.out.keeps HB1.out (by simp)
      have HBr := Hid.mk hbr
      obtain ⟨f0, f1⟩ := free2 hbr
      obtain ⟨d0, d1⟩ := cells2_N hbr
      clear hbr hlen
      go_wp2_with fail
      obtain ⟨W5, e5, k5, hb5⟩ := put2 HBr.out (.slice ad p.names.length cc) (.slice ua p.code.length uc)
      rw [e5]
      clear e5
      refine bodyPost_ret (results_cell_row (p := 2) (ty := 44) rfl _ _ (g1 + 1) 44 _ (0, 0) _ rfl hb5 Tryz.underlying44 rfl (by kernel_rfl)) rfl ?_
      have hng : ∀ g', W0.heap.size ≤ g' → g' ∉ [g1 + 1] := fun g' h1 h2 => by have := HGG.out; simp at h2; omega
      exact ⟨_, _, rfl, ⟨HB.out.isP.names.kept k5 (fun g' h => hng g' (HB.out.names.new g' h)), HB.out.isP.code.kept k5 (fun g' h => hng g' (HB.out.code.new g' h))⟩, HG2.out _ _ HKr.out k5⟩
end
end Go.Proofs.YtngnenbidpojeaaGreatDoor
