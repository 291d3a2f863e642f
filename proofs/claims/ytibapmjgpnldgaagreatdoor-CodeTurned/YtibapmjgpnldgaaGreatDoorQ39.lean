import Derived.Test.YtibapmjgpnldgaaGreatDoorQ19
import Derived.Test.YtibapmjgpnldgaaGreatDoorQ37
/-
  The document's Lines.
-/
namespace Go.Proofs.YtibapmjgpnldgaaGreatDoor
open Go.RowKit
set_option maxRecDepth 100000
set_option linter.unusedVariables false
theorem split_count : ∀ (s cur : List UInt8), (splitG s cur).length ≤ s.length + (if cur = [] then 0 else 1)
  | [], cur => by
    unfold splitG
    by_cases h : cur = []
    · simp [h]
    · simp [h]
  | c :: s, cur => by
    unfold splitG
    by_cases h : c = 10
    · rw [if_pos h, List.length_cons, List.length_cons]
      have := split_count s []
      rw [if_pos rfl] at this
      omega
    · rw [if_neg h, List.length_cons]
      have := split_count s (cur ++ [c])
      rw [if_neg (by simp)] at this
      omega
theorem split_short : ∀ (s cur : List UInt8), ∀ l ∈ splitG s cur, l.length ≤ cur.length + s.length
  | [], cur => fun l hl => by
    unfold splitG at hl
    by_cases h : cur = []
    · simp [h] at hl
    · simp [h] at hl; subst hl; simp
  | c :: s, cur => fun l hl => by
    unfold splitG at hl
    by_cases h : c = 10
    · rw [if_pos h] at hl
      rcases List.mem_cons.1 hl with rfl | hl
      · simp
      · have := split_short s [] l hl
        simp at this ⊢
        omega
    · rw [if_neg h] at hl
      have := split_short s (cur ++ [c]) l hl
      simp at this ⊢
      omega
theorem lines_count (s : List UInt8) : (linesOf s).length ≤ s.length := by
  have := split_count s []
  rw [if_pos rfl] at this
  exact this
theorem lines_short (s : List UInt8) : ∀ l ∈ linesOf s, l.length ≤ s.length := fun l hl => by
  have := split_short s [] l hl
  simpa using this
section
variable {w : World}
set_option maxHeartbeats 4000000 in
theorem lines38 (s : List UInt8) (hs : s.length ≤ 100000) : Calls Tryz.prog 38 #[.string ⟨s.toArray⟩] w fun e w' => ∃ v, e = .returned v ∧ Out 9 1 w w' v (rowN (linesOf s)) := by
  have hz : (⟨s.toArray⟩ : ByteArray).size = s.length := by simp [ByteArray.size]
  obtain ⟨L, HL⟩ : ∃ L, Hid (linesOf s = L) := ⟨_, rfl⟩
  rw [HL.out]
  generalize hPP : (fun (e : Ending) (w' : World) => ∃ v, e = .returned v ∧ Out 9 1 w w' v (rowN L)) = PP
  have HP2 : Hid (∀ (W : World) (v : Value), Out 9 1 w W v (rowN L) → PP (.returned v) W) := fun W v h => by rw [← hPP]; exact ⟨v, rfl, h⟩
  clear hPP
  go_enter Tryz.func38, Tryz.ntmps38
  go_wp2_with fail
  go_loopw [3, 4, 5] (fun v f i wr => ∃ (j m : Nat) (X : List (List UInt8)) (cur : List UInt8), Hid (Out 9 1 w wr v (rowN X)) ∧ f = .int .i64 (m : Int) ∧ i = .int .i64 (j : Int) ∧ m ≤ j ∧ j ≤ s.length ∧ Hid (cur = (s.take j).drop m) ∧ Hid (L = X ++ splitG (s.drop j) cur) ∧ Hid (X.length ≤ j)) (fun _ _ i _ => s.length - (intOf i).toNat)
  case atStart => exact ⟨0, 0, [], [], Hid.mk (Out.nil (Kept.refl [] w)), rfl, rfl, by omega, by omega, Hid.mk (by simp), Hid.mk (by rw [← HL.out]; rfl), Hid.mk (by simp)⟩
  case round =>
    obtain ⟨j, m, X, cur, HO, rfl, rfl, hm, hj, HCu, HX, HXl⟩ := hrel
    by_cases hlt : j < s.length
    · have hjI : (j : Int) < (s.length : Int) := by omega
      have hj0 : (0 : Int) ≤ (j : Int) := by omega
      obtain ⟨c, hc⟩ : ∃ c, s[j]? = some c := ⟨s[j], by simp⟩
      have hA : ∀ h, (⟨s.toArray⟩ : ByteArray)[j]'h = c := fun h => byte_at hc h
      have hd : s.drop j = c :: s.drop (j + 1) := by
        obtain ⟨h1, h2⟩ := List.getElem?_eq_some_iff.1 hc
        rw [List.drop_eq_getElem_cons h1, h2]
      have htk : s.take (j + 1) = s.take j ++ [c] := by rw [List.take_add_one, hc]; rfl
      by_cases h10 : c = 10
      · subst h10
        have HX2 : Hid (L = (X ++ [cur]) ++ splitG (s.drop (j + 1)) []) := by
          show _ = _
          rw [HX.out, hd, splitG, if_pos rfl]
          simp
        have hcut : (⟨s.toArray⟩ : ByteArray).extract m j = ⟨cur.toArray⟩ := by rw [cut_mid, HCu.out]
        obtain ⟨ad, cc, w3, hrun, hO3⟩ := HO.out.more rt22 [.string ⟨cur.toArray⟩] rfl (by simp [Value.oneCell']) (by rw [rowN_length]; have := HXl.out; omega) 9 (0, 0) 22
        have e3 : rowN (X ++ [cur]) = rowN X ++ [[.string ⟨cur.toArray⟩]] := by simp [rowN]
        rw [← e3] at hO3
        have HO3 := Hid.mk hO3
        have HL3 : Hid ((X ++ [cur]).length ≤ j + 1) := by show _ ≤ _; rw [List.length_append]; have := HXl.out; simp; omega
        have HCu3 : Hid (([] : List UInt8) = (s.take (j + 1)).drop (j + 1)) := by show _ = _; simp
        generalize (rowN X).length + 1 = n3 at *
        have hmI : (m : Int) ≤ (j : Int) := by omega
        have hm0 : (0 : Int) ≤ (m : Int) := by omega
        have hjl : (j : Int) ≤ (s.length : Int) := by omega
        clear hc hd htk hO3 e3 HX HO HXl
        go_wp2_with (at_builtin; refine wpList_append_run 22 22 (.tmp 16) (.tmp 21) rfl (by rfl) _ _ rfl rfl _ _ hrun ?_)
        go_roundw
        case rel => exact ⟨j + 1, j + 1, X ++ [cur], [], HO3, by go_num, by go_num, by omega, by omega, HCu3, HX2, HL3⟩
        case measure => simp [intOf]; omega
      · have t1 : ((c.toNat : Int) == 10) = false := by
          simp only [beq_eq_false_iff_ne, ne_eq]
          intro e
          exact h10 (UInt8.toNat_inj.1 (show c.toNat = (10 : UInt8).toNat from by simpa using (by omega : c.toNat = 10)))
        have HX2 : Hid (L = X ++ splitG (s.drop (j + 1)) (cur ++ [c])) := by
          show _ = _
          rw [HX.out, hd, splitG, if_neg h10]
        have HCu3 : Hid (cur ++ [c] = (s.take (j + 1)).drop m) := by
          show _ = _
          rw [htk, HCu.out, List.drop_append_of_le_length (by rw [List.length_take]; omega)]
        have HL3 : Hid (X.length ≤ j + 1) := by show _ ≤ _; have := HXl.out; omega
        clear hc hd htk HX HXl h10
        go_wp2_with fail
        go_roundw
        case rel => exact ⟨j + 1, m, X, cur ++ [c], HO, rfl, by go_num, by omega, by omega, HCu3, HX2, HL3⟩
        case measure => simp [intOf]; omega
    · have hjI : ¬ (j : Int) < (s.length : Int) := by omega
      obtain rfl : j = s.length := by omega
      rw [List.take_length] at HCu
      by_cases hms : m < s.length
      · have hmI : (m : Int) < (s.length : Int) := by omega
        have hm0 : (0 : Int) ≤ (m : Int) := by omega
        have hne : cur ≠ [] := fun e => by
          have := congrArg List.length (HCu.out.symm.trans e)
          rw [List.length_drop] at this
          simp at this
          omega
        have HX2 : Hid (L = X ++ [cur]) := by
          show _ = _
          rw [HX.out, List.drop_length, splitG, if_neg hne]
        have hcut : (⟨s.toArray⟩ : ByteArray).extract m s.length = ⟨cur.toArray⟩ := by rw [cut_mid, HCu.out, List.take_length]
        obtain ⟨ad, cc, w3, hrun, hO3⟩ := HO.out.more rt22 [.string ⟨cur.toArray⟩] rfl (by simp [Value.oneCell']) (by rw [rowN_length]; have := HXl.out; omega) 9 (0, 0) 22
        have e3 : rowN (X ++ [cur]) = rowN X ++ [[.string ⟨cur.toArray⟩]] := by simp [rowN]
        rw [← e3, ← HX2.out] at hO3
        have HH := Hid.mk (HP2.out _ _ hO3)
        generalize (rowN X).length + 1 = n3 at *
        clear hO3 e3 HX HX2 HO HXl hne
        go_wp2_with (at_builtin; refine wpList_append_run 22 22 (.tmp 29) (.tmp 33) rfl (by rfl) _ _ rfl rfl _ _ hrun ?_)
        exact HH.out
      · have hmI : ¬ (m : Int) < (s.length : Int) := by omega
        have HX2 : Hid (L = X) := by
          show _ = _
          have e : cur = [] := by rw [HCu.out]; exact List.drop_eq_nil_of_le (by omega)
          rw [HX.out, List.drop_length, splitG, if_pos e, List.append_nil]
        have hO := HO.out
        rw [← HX2.out] at hO
        have HH := Hid.mk (HP2.out _ _ hO)
        clear hO HX HX2
        go_wp2_with fail
        exact HH.out
end
end Go.Proofs.YtibapmjgpnldgaaGreatDoor
/-
  A program that is built beside a row of lines that is read.
-/
namespace Go.Proofs.YtibapmjgpnldgaaGreatDoor
set_option maxRecDepth 100000
open Go.RowKit
set_option linter.unusedVariables false
/-- The document's program at g, its rows above B; the row x of the lines L below B. -/
structure PL (B : Nat) (w0 w : World) (g : Nat) (v u : Value) (p : Pg) (x : Value) (L : List (List UInt8)) : Prop where
  box : w.heap[g]? = some (.cells #[v, u] 25 (0, 0))
  names : OwnsR 9 1 w v (rowN p.names)
  nN : ∀ g', v.ownBlock = some g' → B ≤ g'
  code : OwnsR 53 2 w u (rowI p.code)
  nC : ∀ g', u.ownBlock = some g' → B ≤ g'
  rd : ReadsR 1 w x (rowN L)
  hx : ∀ g', x.ownBlock = some g' → g' < B ∧ g' ≠ g
  hB : w0.heap.size ≤ B
  hw : B ≤ w.heap.size
  hg : w0.heap.size ≤ g
  k : Kept [] w0 w
section
variable {B : Nat} {w0 w w' : World} {g : Nat} {v u : Value} {p : Pg} {x : Value} {L : List (List UInt8)}
theorem PL.kept0 (h : PL B w0 w g v u p x L) (k : Kept [] w w') : PL B w0 w' g v u p x L :=
  ⟨k.keeps h.box (by simp), h.names.kept k (by simp), h.nN, h.code.kept k (by simp), h.nC, h.rd.kept k (by simp), h.hx, h.hB, Nat.le_trans h.hw k.size, h.hg, h.k.trans k (by simp)⟩
theorem PL.c0 (h : PL B w0 w g v u p x L) : w.cell? ⟨g, 0, none⟩ = some v := by simp [World.cell?, h.box]
theorem PL.c1 (h : PL B w0 w g v u p x L) : w.cell? ⟨g, 1, none⟩ = some u := by simp [World.cell?, h.box]
theorem PL.isP (h : PL B w0 w g v u p x L) : IsP w v u p := ⟨h.names.reads (wideN _), h.code.reads (wideI _)⟩
theorem PL.forms (h : PL B w0 w g v u p x L) : ∃ a c b d, v = .slice a p.names.length c ∧ u = .slice b p.code.length d := by
  obtain ⟨a, c, b, d, h1, h2, -⟩ := h.isP.form
  exact ⟨a, c, b, d, h1, h2⟩
theorem PL.rdk (h : PL B w0 w g v u p x L) {S : List Nat} (k : Kept S w w') (hS : ∀ y ∈ S, y = g ∨ B ≤ y) : ReadsR 1 w' x (rowN L) :=
  h.rd.kept k (fun g' hg hm => by
    have a := h.hx g' hg
    rcases hS g' hm with e | e
    · exact a.2 e
    · omega)
theorem PL.addName (h : PL B w0 w g v u p x L) (hl : p.names.length ≤ 900000) (s : List UInt8) (t : TypeId) (fr : Nat × Nat) (ty : TypeId) :
    ∃ ad c w2, (Builtin.append_ #[22, 22] ty #[v, .slice (some ⟨w.heap.size, 0, none⟩) 1 1]).run Tryz.prog (w.alloc (.cells [Value.string ⟨s.toArray⟩].toArray t fr)) = .ok (.slice ad (p.names.length + 1) c) w2 ∧ w2.cell? ⟨g, 0, none⟩ = some v ∧ w2.frozen? ⟨g, 0, none⟩ = false ∧ PL B w0 (w2.setCell ⟨g, 0, none⟩ (.slice ad (p.names.length + 1) c)) g (.slice ad (p.names.length + 1) c) u ⟨p.names ++ [s], p.code⟩ x L := by
  have hT : (25 : TypeId) ≠ 9 := by decide
  have hTe : (25 : TypeId) ≠ 53 := by decide
  have he : (53 : TypeId) ≠ 9 := by decide
  have hl' : (rowN p.names).length ≤ 900000 := by rw [rowN_length]; exact hl
  obtain ⟨ad, c, w2, hrun, hO, k2, hN⟩ := append_rowR rt22 h.names [.string ⟨s.toArray⟩] rfl (by simp [Value.oneCell']) hl' t fr ty
  rw [rowN_length] at hrun hO hN
  have gv : v.ownBlock ≠ some g := ownsR_ne h.names h.box hT
  have hb2 : w2.heap[g]? = some (.cells #[v, u] 25 (0, 0)) := k2.keeps h.box (by simpa using gv)
  have hc2 : OwnsR 53 2 w2 u (rowI p.code) := h.code.kept k2 (fun g' hg' hm => own_apart h.code h.names he hg' (by simpa using hm))
  have e1 : rowN (p.names ++ [s]) = rowN p.names ++ [[.string ⟨s.toArray⟩]] := by simp [rowN]
  have ks : Kept [g] w2 (w2.setCell ⟨g, 0, none⟩ (.slice ad (p.names.length + 1) c)) := (Kept.refl [g] w2).setCell (.inl (by simp)) _
  have gn : ∀ g', (Value.slice ad (p.names.length + 1) c).ownBlock = some g' → g' ∉ [g] := fun g' hg' hm => by
    simp at hm
    subst hm
    exact ownsR_ne hO hb2 hT hg'
  have gu : ∀ g', u.ownBlock = some g' → g' ∉ [g] := fun g' hg' hm => by
    simp at hm
    subst hm
    exact ownsR_ne hc2 hb2 hTe hg'
  have kt : Kept (g :: v.ownBlock.toList) w (w2.setCell ⟨g, 0, none⟩ (.slice ad (p.names.length + 1) c)) := (k2.mono (fun x hx => .inl (by simp at hx ⊢; exact .inr hx))).trans ks (fun x hx => .inl (by simp at hx; subst hx; simp))
  have hS : ∀ y ∈ g :: v.ownBlock.toList, y = g ∨ B ≤ y := fun y hy => by
    simp only [List.mem_cons, Option.mem_toList] at hy
    rcases hy with rfl | hy
    · exact .inl rfl
    · exact .inr (h.nN y hy)
  have kw : Kept [] w0 (w2.setCell ⟨g, 0, none⟩ (.slice ad (p.names.length + 1) c)) := h.k.trans kt (fun y hy => .inr (by
    have a := hS y hy
    have b := h.hB
    have c := h.hg
    omega))
  refine ⟨ad, c, w2, hrun, by simp [World.cell?, hb2], by simp [World.frozen?, hb2], ⟨set_at hb2, ?_, fun g' hg' => ?_, hc2.kept ks gu, h.nC, h.rdk kt hS, h.hx, h.hB, Nat.le_trans h.hw kt.size, h.hg, kw⟩⟩
  · rw [e1]; exact hO.kept ks gn
  · rcases hN g' hg' with h3 | h3
    · exact h.nN g' h3
    · exact Nat.le_trans h.hw h3
theorem PL.addCode (h : PL B w0 w g v u p x L) (hl : p.code.length ≤ 900000) (xi : In) (t : TypeId) (fr : Nat × Nat) (ty : TypeId) :
    ∃ ad c w2, (Builtin.append_ #[23, 23] ty #[u, .slice (some ⟨w.heap.size, 0, none⟩) 1 1]).run Tryz.prog (w.alloc (.cells [Value.int .i64 xi.op, .int .i64 xi.arg].toArray t fr)) = .ok (.slice ad (p.code.length + 1) c) w2 ∧ w2.cell? ⟨g, 1, none⟩ = some u ∧ w2.frozen? ⟨g, 1, none⟩ = false ∧ PL B w0 (w2.setCell ⟨g, 1, none⟩ (.slice ad (p.code.length + 1) c)) g v (.slice ad (p.code.length + 1) c) ⟨p.names, p.code ++ [xi]⟩ x L := by
  have hT : (25 : TypeId) ≠ 9 := by decide
  have hTe : (25 : TypeId) ≠ 53 := by decide
  have he : (53 : TypeId) ≠ 9 := by decide
  have hl' : (rowI p.code).length ≤ 900000 := by rw [rowI_length]; exact hl
  obtain ⟨ad, c, w2, hrun, hO, k2, hN⟩ := append_rowR rt23 h.code [.int .i64 xi.op, .int .i64 xi.arg] rfl (by simp [Value.oneCell']) hl' t fr ty
  rw [rowI_length] at hrun hO hN
  have gv : u.ownBlock ≠ some g := ownsR_ne h.code h.box hTe
  have hb2 : w2.heap[g]? = some (.cells #[v, u] 25 (0, 0)) := k2.keeps h.box (by simpa using gv)
  have hc2 : OwnsR 9 1 w2 v (rowN p.names) := h.names.kept k2 (fun g' hg' hm => own_apart h.names h.code (Ne.symm he) hg' (by simpa using hm))
  have e1 : rowI (p.code ++ [xi]) = rowI p.code ++ [[.int .i64 xi.op, .int .i64 xi.arg]] := by simp [rowI]
  have ks : Kept [g] w2 (w2.setCell ⟨g, 1, none⟩ (.slice ad (p.code.length + 1) c)) := (Kept.refl [g] w2).setCell (.inl (by simp)) _
  have gn : ∀ g', (Value.slice ad (p.code.length + 1) c).ownBlock = some g' → g' ∉ [g] := fun g' hg' hm => by
    simp at hm
    subst hm
    exact ownsR_ne hO hb2 hTe hg'
  have gu : ∀ g', v.ownBlock = some g' → g' ∉ [g] := fun g' hg' hm => by
    simp at hm
    subst hm
    exact ownsR_ne hc2 hb2 hT hg'
  have kt : Kept (g :: u.ownBlock.toList) w (w2.setCell ⟨g, 1, none⟩ (.slice ad (p.code.length + 1) c)) := (k2.mono (fun x hx => .inl (by simp at hx ⊢; exact .inr hx))).trans ks (fun x hx => .inl (by simp at hx; subst hx; simp))
  have hS : ∀ y ∈ g :: u.ownBlock.toList, y = g ∨ B ≤ y := fun y hy => by
    simp only [List.mem_cons, Option.mem_toList] at hy
    rcases hy with rfl | hy
    · exact .inl rfl
    · exact .inr (h.nC y hy)
  have kw : Kept [] w0 (w2.setCell ⟨g, 1, none⟩ (.slice ad (p.code.length + 1) c)) := h.k.trans kt (fun y hy => .inr (by
    have a := hS y hy
    have b := h.hB
    have c := h.hg
    omega))
  refine ⟨ad, c, w2, hrun, by simp [World.cell?, hb2], by simp [World.frozen?, hb2], ⟨set_at hb2, hc2.kept ks gu, h.nN, ?_, fun g' hg' => ?_, h.rdk kt hS, h.hx, h.hB, Nat.le_trans h.hw kt.size, h.hg, kw⟩⟩
  · rw [e1]; exact hO.kept ks gn
  · rcases hN g' hg' with h3 | h3
    · exact h.nC g' h3
    · exact Nat.le_trans h.hw h3
end
end Go.Proofs.YtibapmjgpnldgaaGreatDoor
