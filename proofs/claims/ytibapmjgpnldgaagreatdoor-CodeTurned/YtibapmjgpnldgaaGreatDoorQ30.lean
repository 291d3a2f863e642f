import Derived.Test.YtibapmjgpnldgaaGreatDoorQ07
import Derived.Test.YtibapmjgpnldgaaGreatDoorQ10
import Derived.Test.YtibapmjgpnldgaaGreatDoorQ11
import Derived.Test.YtibapmjgpnldgaaGreatDoorQ14
import Derived.Test.YtibapmjgpnldgaaGreatDoorQ16
import Derived.Test.YtibapmjgpnldgaaGreatDoorQ19
/-
  The document's digit.
-/
namespace Go.Proofs.YtibapmjgpnldgaaGreatDoor
open Go.RowKit
set_option maxRecDepth 100000
set_option linter.unusedVariables false
section
variable {w : World}
set_option maxHeartbeats 1000000 in
theorem digit83 (c : UInt8) : Calls Tryz.prog 77 #[.int .u8 (c.toNat : Int)] w fun e w' => e = .returned (.int .i64 (digI c)) ∧ w = w' := by
  have hc := c.toNat_lt
  by_cases h1 : 48 ≤ c.toNat
  · have h1' : (48 : Int) ≤ (c.toNat : Int) := by omega
    by_cases h2 : c.toNat ≤ 57
    · have h2' : (c.toNat : Int) ≤ 57 := by omega
      have e : digI c = (c.toNat : Int) - 48 := by
        unfold digI digC
        rw [if_pos ⟨h1, h2⟩]
        dsimp only
        omega
      rw [e]
      have w1 : IntKind.u8.wrap ((c.toNat : Int) - 48) = (c.toNat : Int) - 48 := by rw [IntKind.wrap_u8]; omega
      clear e
      go_enter Tryz.func77, Tryz.ntmps77
      go_wp2_with fail
      go_ret
      exact ⟨by first | rfl | (congr 2; omega), rfl⟩
    · have h2' : ¬ (c.toNat : Int) ≤ 57 := by omega
      by_cases h3 : 97 ≤ c.toNat
      · have h3' : (97 : Int) ≤ (c.toNat : Int) := by omega
        by_cases h4 : c.toNat ≤ 102
        · have h4' : (c.toNat : Int) ≤ 102 := by omega
          have e : digI c = (c.toNat : Int) - 97 + 10 := by
            unfold digI digC
            rw [if_neg (by omega), if_pos ⟨h3, h4⟩]
            dsimp only
            omega
          rw [e]
          have w1 : IntKind.u8.wrap ((c.toNat : Int) - 97) = (c.toNat : Int) - 97 := by rw [IntKind.wrap_u8]; omega
          have w2 : IntKind.i64.wrap ((c.toNat : Int) - 97 + 10) = (c.toNat : Int) - 97 + 10 := by rw [IntKind.wrap_i64]; omega
          clear e
          go_enter Tryz.func77, Tryz.ntmps77
          go_wp2_with fail
          go_ret
          exact ⟨by first | rfl | (congr 2; omega), rfl⟩
        · have h4' : ¬ (c.toNat : Int) ≤ 102 := by omega
          have e : digI c = -1 := by
            unfold digI digC
            rw [if_neg (by omega), if_neg (by omega)]
          rw [e]
          go_enter Tryz.func77, Tryz.ntmps77
          go_wp2_with fail
          go_ret
          exact ⟨rfl, rfl⟩
      · have h3' : ¬ (97 : Int) ≤ (c.toNat : Int) := by omega
        have e : digI c = -1 := by
          unfold digI digC
          rw [if_neg (by omega), if_neg (by omega)]
        rw [e]
        go_enter Tryz.func77, Tryz.ntmps77
        go_wp2_with fail
        go_ret
        exact ⟨rfl, rfl⟩
  · have h1' : ¬ (48 : Int) ≤ (c.toNat : Int) := by omega
    have h3' : ¬ (97 : Int) ≤ (c.toNat : Int) := by omega
    have e : digI c = -1 := by
      unfold digI digC
      rw [if_neg (by omega), if_neg (by omega)]
    rw [e]
    go_enter Tryz.func77, Tryz.ntmps77
    go_wp2_with fail
    go_ret
    exact ⟨rfl, rfl⟩
end
end Go.Proofs.YtibapmjgpnldgaaGreatDoor
/-
  A program that is built while a Reader reads: both side by side; over the types of the program's and of the document's.
-/
namespace Go.Proofs.YtibapmjgpnldgaaGreatDoor
set_option maxRecDepth 100000
open Go.RowKit
set_option linter.unusedVariables false
/-- The types are all different: the Reader's, the program's, its instructions'. -/
def TyOk (tR T e : TypeId) : Prop := T ≠ tR ∧ e ≠ tR ∧ (9 : TypeId) ≠ tR ∧ e ≠ 9 ∧ T ≠ e ∧ T ≠ 9
/-- A program at g, of type T, and a Reader at q, of type tR, side by side; all new since w0; the rows lie above B, what the Reader reads below it. -/
structure PR (tR T e : TypeId) (B : Nat) (w0 w : World) (g q : Nat) (v u : Value) (p : Pg) (l : List UInt8) (bad : Bool) : Prop where
  ty : TyOk tR T e
  box : w.heap[g]? = some (.cells #[v, u] T (0, 0))
  names : OwnsR 9 1 w v (rowN p.names)
  nN : ∀ g', v.ownBlock = some g' → B ≤ g'
  code : OwnsR e 2 w u (rowI p.code)
  nC : ∀ g', u.ownBlock = some g' → B ≤ g'
  rd : ∃ x, IsR tR w q x l bad ∧ ∀ g', x.ownBlock = some g' → g' < B ∧ g' ≠ g
  hB : w0.heap.size ≤ B
  hw : B ≤ w.heap.size
  hg : w0.heap.size ≤ g
  hq : w0.heap.size ≤ q
  k : Kept [] w0 w
section
variable {tR T e : TypeId} {B : Nat} {w0 w w' : World} {g q : Nat} {v u : Value} {p : Pg} {l : List UInt8} {bad : Bool}
theorem PR.kept0 (h : PR tR T e B w0 w g q v u p l bad) (k : Kept [] w w') : PR tR T e B w0 w' g q v u p l bad := by
  obtain ⟨x, h1, h2⟩ := h.rd
  exact ⟨h.ty, k.keeps h.box (by simp), h.names.kept k (by simp), h.nN, h.code.kept k (by simp), h.nC, ⟨x, h1.kept k (by simp) (by simp), h2⟩, h.hB, Nat.le_trans h.hw k.size, h.hg, h.hq, h.k.trans k (by simp)⟩
theorem PR.c0 (h : PR tR T e B w0 w g q v u p l bad) : w.cell? ⟨g, 0, none⟩ = some v := by simp [World.cell?, h.box]
theorem PR.c1 (h : PR tR T e B w0 w g q v u p l bad) : w.cell? ⟨g, 1, none⟩ = some u := by simp [World.cell?, h.box]
theorem PR.badc (h : PR tR T e B w0 w g q v u p l bad) : w.cell? ⟨q, 1, none⟩ = some (.bool bad) := by
  obtain ⟨x, h1, -⟩ := h.rd
  exact (cell_of_two h1.box).2
theorem PR.isP (h : PR tR T e B w0 w g q v u p l bad) : IsP w v u p := ⟨h.names.reads (wideN _), h.code.reads (wideI _)⟩
theorem PR.forms (h : PR tR T e B w0 w g q v u p l bad) : ∃ a c b d, v = .slice a p.names.length c ∧ u = .slice b p.code.length d := by
  obtain ⟨a, c, b, d, h1, h2, -⟩ := h.isP.form
  exact ⟨a, c, b, d, h1, h2⟩
theorem PR.gq (h : PR tR T e B w0 w g q v u p l bad) : g ≠ q := by
  obtain ⟨x, h1, -⟩ := h.rd
  exact box_ne h.box h1.box h.ty.1
theorem PR.read (h : PR tR T e B w0 w g q v u p l bad) {x : Value} (h1 : IsR tR w q x l bad) (h2 : ∀ g', x.ownBlock = some g' → g' < B ∧ g' ≠ g) {l' : List UInt8} {bad' : Bool} (R : Rest tR w q x l' bad' w') : PR tR T e B w0 w' g q v u p l' bad' := by
  obtain ⟨x', i1, i2, i3⟩ := R
  have nv : ∀ g', v.ownBlock = some g' → g' ∉ [q] := fun g' hg hm => by
    simp at hm; subst hm; exact ownsR_ne h.names h1.box (Ne.symm h.ty.2.2.1) hg
  have nu : ∀ g', u.ownBlock = some g' → g' ∉ [q] := fun g' hg hm => by
    simp at hm; subst hm; exact ownsR_ne h.code h1.box (Ne.symm h.ty.2.1) hg
  exact ⟨h.ty, i2.keeps h.box (by simp; exact h.gq), h.names.kept i2 nv, h.nN, h.code.kept i2 nu, h.nC, ⟨x', i1, fun g' hg => h2 g' (i3 g' hg)⟩, h.hB, Nat.le_trans h.hw i2.size, h.hg, h.hq, h.k.trans i2 (fun y hy => by simp at hy; subst hy; exact .inr h.hq)⟩
/-- A row was laid, and its place stored: the Reader is as it was. -/
theorem PR.rdk (h : PR tR T e B w0 w g q v u p l bad) {S : List Nat} (k : Kept S w w') (hS : ∀ y ∈ S, (y = g ∨ B ≤ y) ∧ y ≠ q) : ∃ x, IsR tR w' q x l bad ∧ ∀ g', x.ownBlock = some g' → g' < B ∧ g' ≠ g := by
  obtain ⟨x, h1, h2⟩ := h.rd
  refine ⟨x, h1.kept k (fun hm => (hS q hm).2 rfl) (fun g' hg hm => ?_), h2⟩
  have a := h2 g' hg
  rcases (hS g' hm).1 with e | e
  · exact a.2 e
  · omega
theorem PR.addName (h : PR tR T e B w0 w g q v u p l bad) (hl : p.names.length ≤ 900000) (s : List UInt8) (t : TypeId) (fr : Nat × Nat) (ty : TypeId) :
    ∃ ad c w2, (Builtin.append_ #[22, 22] ty #[v, .slice (some ⟨w.heap.size, 0, none⟩) 1 1]).run Tryz.prog (w.alloc (.cells [Value.string ⟨s.toArray⟩].toArray t fr)) = .ok (.slice ad (p.names.length + 1) c) w2 ∧ w2.cell? ⟨g, 0, none⟩ = some v ∧ w2.frozen? ⟨g, 0, none⟩ = false ∧ PR tR T e B w0 (w2.setCell ⟨g, 0, none⟩ (.slice ad (p.names.length + 1) c)) g q (.slice ad (p.names.length + 1) c) u ⟨p.names ++ [s], p.code⟩ l bad := by
  obtain ⟨x, hr, -⟩ := h.rd
  have hT : T ≠ 9 := h.ty.2.2.2.2.2
  have hTe : T ≠ e := h.ty.2.2.2.2.1
  have he : e ≠ 9 := h.ty.2.2.2.1
  have hl' : (rowN p.names).length ≤ 900000 := by rw [rowN_length]; exact hl
  obtain ⟨ad, c, w2, hrun, hO, k2, hN⟩ := append_rowR rt22 h.names [.string ⟨s.toArray⟩] rfl (by simp [Value.oneCell']) hl' t fr ty
  rw [rowN_length] at hrun hO hN
  have gv : v.ownBlock ≠ some g := ownsR_ne h.names h.box hT
  have hb2 : w2.heap[g]? = some (.cells #[v, u] T (0, 0)) := k2.keeps h.box (by simpa using gv)
  have hc2 : OwnsR e 2 w2 u (rowI p.code) := h.code.kept k2 (fun g' hg' hm => own_apart h.code h.names he hg' (by simpa using hm))
  have e1 : rowN (p.names ++ [s]) = rowN p.names ++ [[.string ⟨s.toArray⟩]] := by simp [rowN]
  have ks : Kept [g] w2 (w2.setCell ⟨g, 0, none⟩ (.slice ad (p.names.length + 1) c)) := (Kept.refl [g] w2).setCell (.inl (by simp)) _
  have gn : ∀ g', (Value.slice ad (p.names.length + 1) c).ownBlock = some g' → g' ∉ [g] := fun g' hg' hm => by
    simp at hm
    subst hm
    exact ownsR_ne hO hb2 hT hg'
  have gu : ∀ g', u.ownBlock = some g' → g' ∉ [g] := fun g' hg' hm => by
    simp at hm
    subst hm
    exact ownsR_ne hc2 hb2 hTe hg'
  have kt : Kept (g :: v.ownBlock.toList) w (w2.setCell ⟨g, 0, none⟩ (.slice ad (p.names.length + 1) c)) := (k2.mono (fun x hx => .inl (by simp at hx ⊢; exact .inr hx))).trans ks (fun x hx => .inl (by simp at hx; subst hx; simp))
  have hS : ∀ y ∈ g :: v.ownBlock.toList, (y = g ∨ B ≤ y) ∧ y ≠ q := fun y hy => by
    simp only [List.mem_cons, Option.mem_toList] at hy
    rcases hy with rfl | hy
    · exact ⟨.inl rfl, h.gq⟩
    · exact ⟨.inr (h.nN y hy), fun e => by subst e; exact ownsR_ne h.names hr.box (Ne.symm h.ty.2.2.1) hy⟩
  have kw : Kept [] w0 (w2.setCell ⟨g, 0, none⟩ (.slice ad (p.names.length + 1) c)) := h.k.trans kt (fun y hy => .inr (by
    have a := (hS y hy).1
    have b := h.hB
    have c := h.hg
    omega))
  refine ⟨ad, c, w2, hrun, by simp [World.cell?, hb2], by simp [World.frozen?, hb2], ⟨h.ty, set_at hb2, ?_, fun g' hg' => ?_, hc2.kept ks gu, h.nC, h.rdk kt hS, h.hB, Nat.le_trans h.hw kt.size, h.hg, h.hq, kw⟩⟩
  · rw [e1]; exact hO.kept ks gn
  · rcases hN g' hg' with h3 | h3
    · exact h.nN g' h3
    · exact Nat.le_trans h.hw h3
theorem PR.addCode {T' : TypeId} {b : Nat} {z : Value} (R : RowT T' e 2 b z) (h : PR tR T e B w0 w g q v u p l bad) (hl : p.code.length ≤ 900000) (x : In) (t : TypeId) (fr : Nat × Nat) (ty : TypeId) :
    ∃ ad c w2, (Builtin.append_ #[T', T'] ty #[u, .slice (some ⟨w.heap.size, 0, none⟩) 1 1]).run Tryz.prog (w.alloc (.cells [Value.int .i64 x.op, .int .i64 x.arg].toArray t fr)) = .ok (.slice ad (p.code.length + 1) c) w2 ∧ w2.cell? ⟨g, 1, none⟩ = some u ∧ w2.frozen? ⟨g, 1, none⟩ = false ∧ PR tR T e B w0 (w2.setCell ⟨g, 1, none⟩ (.slice ad (p.code.length + 1) c)) g q v (.slice ad (p.code.length + 1) c) ⟨p.names, p.code ++ [x]⟩ l bad := by
  obtain ⟨y, hr, -⟩ := h.rd
  have hT : T ≠ 9 := h.ty.2.2.2.2.2
  have hTe : T ≠ e := h.ty.2.2.2.2.1
  have he : e ≠ 9 := h.ty.2.2.2.1
  have hl' : (rowI p.code).length ≤ 900000 := by rw [rowI_length]; exact hl
  obtain ⟨ad, c, w2, hrun, hO, k2, hN⟩ := append_rowR R h.code [.int .i64 x.op, .int .i64 x.arg] rfl (by simp [Value.oneCell']) hl' t fr ty
  rw [rowI_length] at hrun hO hN
  have gv : u.ownBlock ≠ some g := ownsR_ne h.code h.box hTe
  have hb2 : w2.heap[g]? = some (.cells #[v, u] T (0, 0)) := k2.keeps h.box (by simpa using gv)
  have hc2 : OwnsR 9 1 w2 v (rowN p.names) := h.names.kept k2 (fun g' hg' hm => own_apart h.names h.code (Ne.symm he) hg' (by simpa using hm))
  have e1 : rowI (p.code ++ [x]) = rowI p.code ++ [[.int .i64 x.op, .int .i64 x.arg]] := by simp [rowI]
  have ks : Kept [g] w2 (w2.setCell ⟨g, 1, none⟩ (.slice ad (p.code.length + 1) c)) := (Kept.refl [g] w2).setCell (.inl (by simp)) _
  have gn : ∀ g', (Value.slice ad (p.code.length + 1) c).ownBlock = some g' → g' ∉ [g] := fun g' hg' hm => by
    simp at hm
    subst hm
    exact ownsR_ne hO hb2 hTe hg'
  have gu : ∀ g', v.ownBlock = some g' → g' ∉ [g] := fun g' hg' hm => by
    simp at hm
    subst hm
    exact ownsR_ne hc2 hb2 hT hg'
  have kt : Kept (g :: u.ownBlock.toList) w (w2.setCell ⟨g, 1, none⟩ (.slice ad (p.code.length + 1) c)) := (k2.mono (fun x hx => .inl (by simp at hx ⊢; exact .inr hx))).trans ks (fun x hx => .inl (by simp at hx; subst hx; simp))
  have hS : ∀ y ∈ g :: u.ownBlock.toList, (y = g ∨ B ≤ y) ∧ y ≠ q := fun y hy => by
    simp only [List.mem_cons, Option.mem_toList] at hy
    rcases hy with rfl | hy
    · exact ⟨.inl rfl, h.gq⟩
    · exact ⟨.inr (h.nC y hy), fun e => by subst e; exact ownsR_ne h.code hr.box (Ne.symm h.ty.2.1) hy⟩
  have kw : Kept [] w0 (w2.setCell ⟨g, 1, none⟩ (.slice ad (p.code.length + 1) c)) := h.k.trans kt (fun y hy => .inr (by
    have a := (hS y hy).1
    have b := h.hB
    have c := h.hg
    omega))
  refine ⟨ad, c, w2, hrun, by simp [World.cell?, hb2], by simp [World.frozen?, hb2], ⟨h.ty, set_at hb2, hc2.kept ks gu, h.nN, ?_, fun g' hg' => ?_, h.rdk kt hS, h.hB, Nat.le_trans h.hw kt.size, h.hg, h.hq, kw⟩⟩
  · rw [e1]; exact hO.kept ks gn
  · rcases hN g' hg' with h3 | h3
    · exact h.nC g' h3
    · exact Nat.le_trans h.hw h3
end
section
variable {T e : TypeId} {B : Nat} {w0 w w' : World} {g q : Nat} {v u : Value} {p : Pg} {l : List UInt8} {bad : Bool}
theorem pr_num (h : PR 116 T e B w0 w g q v u p l bad) : Calls Tryz.prog 45 #[.pointer (some ⟨q, 0, none⟩)] w fun e1 w' => e1 = .returned (.int .u64 ((rnum l bad).1 : Int)) ∧ PR 116 T e B w0 w' g q v u p (rnum l bad).2.1 (rnum l bad).2.2 := by
  obtain ⟨x, h1, h2⟩ := h.rd
  refine (rnum_any q x l bad w h1).mono ?_
  rintro e w' ⟨rfl, R⟩
  exact ⟨rfl, h.read h1 h2 R⟩
theorem pr_text (h : PR 116 T e B w0 w g q v u p l bad) : Calls Tryz.prog 46 #[.pointer (some ⟨q, 0, none⟩)] w fun e1 w' => e1 = .returned (.string ⟨(rtext l bad).1.toArray⟩) ∧ PR 116 T e B w0 w' g q v u p (rtext l bad).2.1 (rtext l bad).2.2 := by
  obtain ⟨x, h1, h2⟩ := h.rd
  refine (rtext_any q x l bad w h1).mono ?_
  rintro e w' ⟨rfl, R⟩
  exact ⟨rfl, h.read h1 h2 R⟩
theorem pr_int (h : PR 116 T e B w0 w g q v u p l bad) : Calls Tryz.prog 47 #[.pointer (some ⟨q, 0, none⟩)] w fun e1 w' => e1 = .returned (.int .i64 (unfold (rnum l bad).1)) ∧ PR 116 T e B w0 w' g q v u p (rnum l bad).2.1 (rnum l bad).2.2 := by
  obtain ⟨x, h1, h2⟩ := h.rd
  refine (rint_any q x l bad w h1).mono ?_
  rintro e w' ⟨rfl, R⟩
  exact ⟨rfl, h.read h1 h2 R⟩
theorem pr_end (h : PR 116 T e B w0 w g q v u p l bad) : Calls Tryz.prog 48 #[.pointer (some ⟨q, 0, none⟩)] w fun e1 w' => e1 = .returned (.bool (!bad && l.isEmpty)) ∧ PR 116 T e B w0 w' g q v u p l bad := by
  obtain ⟨x, h1, h2⟩ := h.rd
  refine (end_any q x l bad w h1).mono ?_
  rintro e w' ⟨rfl, rfl⟩
  exact ⟨rfl, h⟩
theorem dr_num (h : PR 105 T e B w0 w g q v u p l bad) : Calls Tryz.prog 50 #[.pointer (some ⟨q, 0, none⟩)] w fun e1 w' => e1 = .returned (.int .u64 ((rnum l bad).1 : Int)) ∧ PR 105 T e B w0 w' g q v u p (rnum l bad).2.1 (rnum l bad).2.2 := by
  obtain ⟨x, h1, h2⟩ := h.rd
  refine (refr_any q x l bad w h1).mono ?_
  rintro e w' ⟨rfl, R⟩
  exact ⟨rfl, h.read h1 h2 R⟩
theorem dr_text (h : PR 105 T e B w0 w g q v u p l bad) : Calls Tryz.prog 51 #[.pointer (some ⟨q, 0, none⟩)] w fun e1 w' => e1 = .returned (.string ⟨(rtext l bad).1.toArray⟩) ∧ PR 105 T e B w0 w' g q v u p (rtext l bad).2.1 (rtext l bad).2.2 := by
  obtain ⟨x, h1, h2⟩ := h.rd
  refine (refr_text q x l bad w h1).mono ?_
  rintro e w' ⟨rfl, R⟩
  exact ⟨rfl, h.read h1 h2 R⟩
theorem dr_int (h : PR 105 T e B w0 w g q v u p l bad) : Calls Tryz.prog 52 #[.pointer (some ⟨q, 0, none⟩)] w fun e1 w' => e1 = .returned (.int .i64 (unfold (rnum l bad).1)) ∧ PR 105 T e B w0 w' g q v u p (rnum l bad).2.1 (rnum l bad).2.2 := by
  obtain ⟨x, h1, h2⟩ := h.rd
  refine (refr_int q x l bad w h1).mono ?_
  rintro e w' ⟨rfl, R⟩
  exact ⟨rfl, h.read h1 h2 R⟩
theorem dr_end (h : PR 105 T e B w0 w g q v u p l bad) : Calls Tryz.prog 53 #[.pointer (some ⟨q, 0, none⟩)] w fun e1 w' => e1 = .returned (.bool (!bad && l.isEmpty)) ∧ PR 105 T e B w0 w' g q v u p l bad := by
  obtain ⟨x, h1, h2⟩ := h.rd
  refine (refr_end q x l bad w h1).mono ?_
  rintro e w' ⟨rfl, rfl⟩
  exact ⟨rfl, h⟩
end
end Go.Proofs.YtibapmjgpnldgaaGreatDoor
