import Derived.Deep.RegionHeld3
import Derived.Test.YtngnenbidpojeaaGreatDoorT19
import Derived.Test.YtngnenbidpojeaaGreatDoorT21
import Derived.Test.YtngnenbidpojeaaGreatDoorT22
/-
 What has come of a run, in memory: the appends once more, with what becomes of a row of another type.
-/
namespace Go.Proofs.YtngnenbidpojeaaGreatDoor
open Go.RowKit
set_option maxRecDepth 100000
set_option linter.unusedVariables false
section
variable {t : Ty} {w0 w w' : World} {p : Nat} {pre : List Value} {reg : List Int} {E : List Ev} {S : List Sn} {M : List Tm} {k : Nat} {ev sn tm : Value}
theorem RS.addEv2 {T' : TypeId} {b : Nat} {z : Value} (R : RowT T' t.e1 2 b z) (hT : t.Ok) (h : RS t w0 w p pre reg E S M k ev sn tm) (hl : E.length ≤ 900000) (x : Ev) (o : Nat) (ho : pre.length + 8 = o) (tt : TypeId) (fr : Nat × Nat) (ty : TypeId) :
  ∃ ad c w2, (Builtin.append_ #[T', T'] ty #[ev, .slice (some ⟨w.heap.size, 0, none⟩) 1 1]).run Tryz.prog (w.alloc (.cells [.int .i64 (x.r : Int), .int .i64 x.v].toArray tt fr)) = .ok (.slice ad (E.length + 1) c) w2 ∧ w2.cell? ⟨p, o, none⟩ = some ev ∧ w2.frozen? ⟨p, o, none⟩ = false ∧ RS t w0 (w2.setCell ⟨p, o, none⟩ (.slice ad (E.length + 1) c)) p pre reg (E ++ [x]) S M k (.slice ad (E.length + 1) c) sn tm ∧ Kept ev.ownBlock.toList w w2 ∧ ∀ (e' : TypeId) (k' : Nat) (u' : Value) (rs' : List (List Value)), e' ≠ t.e1 → t.T ≠ e' → Out e' k' w0 w u' rs' → Out e' k' w0 (w2.setCell ⟨p, o, none⟩ (.slice ad (E.length + 1) c)) u' rs' := by
 subst ho
 have hl' : (rowE E).length ≤ 900000 := by rw [rowE_length]; exact hl
 obtain ⟨ad, c, w2, hrun, hO, k2, hN⟩ := append_rowR R h.ev.own [.int .i64 (x.r : Int), .int .i64 x.v] rfl (by simp [Value.oneCell']) hl' tt fr ty
 rw [rowE_length] at hrun hO hN
 obtain ⟨d1, d2, d3, d4, d5, d6⟩ := hT
 have gv : ev.ownBlock ≠ some p := ownsR_ne h.ev.own h.box d1
 have hb2 : w2.heap[p]? = some (.cells (pre ++ cellsR reg ev sn tm k).toArray t.T (0, 0)) := k2.keeps h.box (by simpa using gv)
 have h1 := h.sn.besides h.ev (Ne.symm d4) k2
 have h2 := h.tm.besides h.ev (Ne.symm d5) k2
 have e1 : rowE (E ++ [x]) = rowE E ++ [[.int .i64 (x.r : Int), .int .i64 x.v]] := by simp [rowE]
 have h3 : Out t.e1 2 w0 w2 (.slice ad (E.length + 1) c) (rowE (E ++ [x])) := ⟨by rw [e1]; exact hO, fun g' hg' => by
  rcases hN g' hg' with h3 | h3
  ·exact h.ev.new g' h3
  ·exact Nat.le_trans h.kept.size h3, h1.kept⟩
 have ks : Kept [p] w2 (w2.setCell ⟨p, pre.length + 8, none⟩ (.slice ad (E.length + 1) c)) := (Kept.refl [p] w2).setCell (.inl (by simp)) _
 refine ⟨ad, c, w2, hrun, cell_list_N hb2 (by rw [List.getElem?_append_right (by omega), Nat.add_sub_cancel_left]; exact cellsR_ev h.r8), by simp [World.frozen?, hb2], ⟨?_, h.r8, h3.boxed hb2 d1 h.hp ks, h1.boxed hb2 d2 h.hp ks, h2.boxed hb2 d3 h.hp ks, h.hp⟩, k2, fun e' k' u' rs' n1 n2 ho => (ho.besides h.ev n1 k2).boxed hb2 n2 h.hp ks⟩
 rw [set_list hb2, List.set_append_right _ _ (by omega), Nat.add_sub_cancel_left]
 unfold cellsR
 rw [List.set_append_right _ _ (by rw [BI_length_N, h.r8]; omega), BI_length_N, h.r8]
 rfl
theorem RS.addSn2 {T' : TypeId} {b : Nat} {z : Value} (R : RowT T' t.e2 3 b z) (hT : t.Ok) (h : RS t w0 w p pre reg E S M k ev sn tm) (hl : S.length ≤ 900000) (x : Sn) (o : Nat) (ho : pre.length + 9 = o) (tt : TypeId) (fr : Nat × Nat) (ty : TypeId) :
  ∃ ad c w2, (Builtin.append_ #[T', T'] ty #[sn, .slice (some ⟨w.heap.size, 0, none⟩) 1 1]).run Tryz.prog (w.alloc (.cells [.string ⟨x.to.toArray⟩, .int .i64 x.kind, .int .i64 x.arg].toArray tt fr)) = .ok (.slice ad (S.length + 1) c) w2 ∧ w2.cell? ⟨p, o, none⟩ = some sn ∧ w2.frozen? ⟨p, o, none⟩ = false ∧ RS t w0 (w2.setCell ⟨p, o, none⟩ (.slice ad (S.length + 1) c)) p pre reg E (S ++ [x]) M k ev (.slice ad (S.length + 1) c) tm ∧ Kept sn.ownBlock.toList w w2 ∧ ∀ (e' : TypeId) (k' : Nat) (u' : Value) (rs' : List (List Value)), e' ≠ t.e2 → t.T ≠ e' → Out e' k' w0 w u' rs' → Out e' k' w0 (w2.setCell ⟨p, o, none⟩ (.slice ad (S.length + 1) c)) u' rs' := by
 subst ho
 have hl' : (rowS S).length ≤ 900000 := by rw [rowS_length]; exact hl
 obtain ⟨ad, c, w2, hrun, hO, k2, hN⟩ := append_rowR R h.sn.own [.string ⟨x.to.toArray⟩, .int .i64 x.kind, .int .i64 x.arg] rfl (by simp [Value.oneCell']) hl' tt fr ty
 rw [rowS_length] at hrun hO hN
 obtain ⟨d1, d2, d3, d4, d5, d6⟩ := hT
 have gv : sn.ownBlock ≠ some p := ownsR_ne h.sn.own h.box d2
 have hb2 : w2.heap[p]? = some (.cells (pre ++ cellsR reg ev sn tm k).toArray t.T (0, 0)) := k2.keeps h.box (by simpa using gv)
 have h1 := h.ev.besides h.sn d4 k2
 have h2 := h.tm.besides h.sn (Ne.symm d6) k2
 have e1 : rowS (S ++ [x]) = rowS S ++ [[.string ⟨x.to.toArray⟩, .int .i64 x.kind, .int .i64 x.arg]] := by simp [rowS]
 have h3 : Out t.e2 3 w0 w2 (.slice ad (S.length + 1) c) (rowS (S ++ [x])) := ⟨by rw [e1]; exact hO, fun g' hg' => by
  rcases hN g' hg' with h3 | h3
  ·exact h.sn.new g' h3
  ·exact Nat.le_trans h.kept.size h3, h1.kept⟩
 have ks : Kept [p] w2 (w2.setCell ⟨p, pre.length + 9, none⟩ (.slice ad (S.length + 1) c)) := (Kept.refl [p] w2).setCell (.inl (by simp)) _
 refine ⟨ad, c, w2, hrun, cell_list_N hb2 (by rw [List.getElem?_append_right (by omega), Nat.add_sub_cancel_left]; exact cellsR_sn h.r8), by simp [World.frozen?, hb2], ⟨?_, h.r8, h1.boxed hb2 d1 h.hp ks, h3.boxed hb2 d2 h.hp ks, h2.boxed hb2 d3 h.hp ks, h.hp⟩, k2, fun e' k' u' rs' n1 n2 ho => (ho.besides h.sn n1 k2).boxed hb2 n2 h.hp ks⟩
 rw [set_list hb2, List.set_append_right _ _ (by omega), Nat.add_sub_cancel_left]
 unfold cellsR
 rw [List.set_append_right _ _ (by rw [BI_length_N, h.r8]; omega), BI_length_N, h.r8]
 rfl
theorem RS.addTm2 {T' : TypeId} {b : Nat} {z : Value} (R : RowT T' t.e3 5 b z) (hT : t.Ok) (h : RS t w0 w p pre reg E S M k ev sn tm) (hl : M.length ≤ 900000) (x : Tm) (o : Nat) (ho : pre.length + 10 = o) (tt : TypeId) (fr : Nat × Nat) (ty : TypeId) :
  ∃ ad c w2, (Builtin.append_ #[T', T'] ty #[tm, .slice (some ⟨w.heap.size, 0, none⟩) 1 1]).run Tryz.prog (w.alloc (.cells [.string ⟨x.nm.toArray⟩, .bool x.can, .int .i64 x.due, .int .i64 x.per, .int .i64 x.kind].toArray tt fr)) = .ok (.slice ad (M.length + 1) c) w2 ∧ w2.cell? ⟨p, o, none⟩ = some tm ∧ w2.frozen? ⟨p, o, none⟩ = false ∧ RS t w0 (w2.setCell ⟨p, o, none⟩ (.slice ad (M.length + 1) c)) p pre reg E S (M ++ [x]) k ev sn (.slice ad (M.length + 1) c) ∧ Kept tm.ownBlock.toList w w2 ∧ ∀ (e' : TypeId) (k' : Nat) (u' : Value) (rs' : List (List Value)), e' ≠ t.e3 → t.T ≠ e' → Out e' k' w0 w u' rs' → Out e' k' w0 (w2.setCell ⟨p, o, none⟩ (.slice ad (M.length + 1) c)) u' rs' := by
 subst ho
 have hl' : (rowT M).length ≤ 900000 := by rw [rowT_length]; exact hl
 obtain ⟨ad, c, w2, hrun, hO, k2, hN⟩ := append_rowR R h.tm.own [.string ⟨x.nm.toArray⟩, .bool x.can, .int .i64 x.due, .int .i64 x.per, .int .i64 x.kind] rfl (by simp [Value.oneCell']) hl' tt fr ty
 rw [rowT_length] at hrun hO hN
 obtain ⟨d1, d2, d3, d4, d5, d6⟩ := hT
 have gv : tm.ownBlock ≠ some p := ownsR_ne h.tm.own h.box d3
 have hb2 : w2.heap[p]? = some (.cells (pre ++ cellsR reg ev sn tm k).toArray t.T (0, 0)) := k2.keeps h.box (by simpa using gv)
 have h1 := h.ev.besides h.tm d5 k2
 have h2 := h.sn.besides h.tm d6 k2
 have e1 : rowT (M ++ [x]) = rowT M ++ [[.string ⟨x.nm.toArray⟩, .bool x.can, .int .i64 x.due, .int .i64 x.per, .int .i64 x.kind]] := by simp [rowT]
 have h3 : Out t.e3 5 w0 w2 (.slice ad (M.length + 1) c) (rowT (M ++ [x])) := ⟨by rw [e1]; exact hO, fun g' hg' => by
  rcases hN g' hg' with h3 | h3
  ·exact h.tm.new g' h3
  ·exact Nat.le_trans h.kept.size h3, h1.kept⟩
 have ks : Kept [p] w2 (w2.setCell ⟨p, pre.length + 10, none⟩ (.slice ad (M.length + 1) c)) := (Kept.refl [p] w2).setCell (.inl (by simp)) _
 refine ⟨ad, c, w2, hrun, cell_list_N hb2 (by rw [List.getElem?_append_right (by omega), Nat.add_sub_cancel_left]; exact cellsR_tm h.r8), by simp [World.frozen?, hb2], ⟨?_, h.r8, h1.boxed hb2 d1 h.hp ks, h2.boxed hb2 d2 h.hp ks, h3.boxed hb2 d3 h.hp ks, h.hp⟩, k2, fun e' k' u' rs' n1 n2 ho => (ho.besides h.tm n1 k2).boxed hb2 n2 h.hp ks⟩
 rw [set_list hb2, List.set_append_right _ _ (by omega), Nat.add_sub_cancel_left]
 unfold cellsR
 rw [List.set_append_right _ _ (by rw [BI_length_N, h.r8]; omega), BI_length_N, h.r8]
 rfl
end
def tyF : Ty := ⟨189, 93, 117, 193⟩
theorem tyF_ok : tyF.Ok := by unfold Ty.Ok tyF; decide
def preF (B : Bs) (pl : Int) (sv : Value) : List Value := B.fix ++ [.int .i64 pl, sv]
theorem rt28_N : RowT 79 2 1 8 (.int .i64 0) := ⟨Tryz.underlying79, by kernel_rfl, rfl, by omega, by omega⟩
theorem rt45F : RowT 27 93 2 16 (.agg #[.int .i64 0, .int .i64 0]) := ⟨Tryz.underlying27, by kernel_rfl, rfl, by omega, by omega⟩
theorem rt46F : RowT 111 117 3 32 (.agg #[.string ⟨#[]⟩, .int .i64 0, .int .i64 0]) := ⟨Tryz.underlying111, by kernel_rfl, rfl, by omega, by omega⟩
theorem rt47F : RowT 46 193 5 48 (.agg #[.string ⟨#[]⟩, .bool false, .int .i64 0, .int .i64 0, .int .i64 0]) := ⟨Tryz.underlying46, by kernel_rfl, rfl, by omega, by omega⟩
structure FS (B : Bs) (w : World) (p : Nat) (m : Mc) (k : Nat) (sv ev sn tm : Value) : Prop where
 st : Out 2 1 B.w0 w sv (rowJ m.st)
 rs : RS tyF B.w0 w p (preF B (m.at_ : Int) sv) m.reg m.ev m.sent m.tm k ev sn tm
def FSt (B : Bs) (w : World) (p : Nat) (m : Mc) (k : Nat) : Prop := ∃ sv ev sn tm, FS B w p m k sv ev sn tm
section
variable {B : Bs} {w w' : World} {p : Nat} {m : Mc} {k : Nat} {sv ev sn tm : Value}
theorem FS.len (h : FS B w p m k sv ev sn tm) : (preF B (m.at_ : Int) sv).length = 9 := rfl
theorem FS.keep (h : FS B w p m k sv ev sn tm) (kk : Kept [] w w') : FS B w' p m k sv ev sn tm := ⟨h.st.keep kk, h.rs.keep kk⟩
theorem FSt.keep (h : FSt B w p m k) (kk : Kept [] w w') : FSt B w' p m k := by
 obtain ⟨sv, ev, sn, tm, h⟩ := h
 exact ⟨sv, ev, sn, tm, h.keep kk⟩
theorem FSt.kept (h : FSt B w p m k) : Kept [] B.w0 w := by
 obtain ⟨sv, ev, sn, tm, h⟩ := h
 exact h.rs.kept
theorem FSt.r8 (h : FSt B w p m k) : m.reg.length = 8 := by
 obtain ⟨sv, ev, sn, tm, h⟩ := h
 exact h.rs.r8
theorem FS.fix (h : FS B w p m k sv ev sn tm) {i : Nat} {x : Value} (hi : B.fix[i]? = some x) : w.cell? ⟨p, i, none⟩ = some x :=
 h.rs.cell_pre (by unfold preF; rw [List.getElem?_append_left (List.getElem?_eq_some_iff.1 hi).1]; exact hi)
theorem FS.c_at (h : FS B w p m k sv ev sn tm) : w.cell? ⟨p, 7, none⟩ = some (Iv_N (m.at_ : Int)) := h.rs.cell_pre rfl
theorem FS.c_st (h : FS B w p m k sv ev sn tm) : w.cell? ⟨p, 8, none⟩ = some sv := h.rs.cell_pre rfl
theorem FS.put_at (h : FS B w p m k sv ev sn tm) (n : Nat) : FSt B (w.setCell ⟨p, 7, none⟩ (Iv_N (n : Int))) p { m with at_ := n } k :=
 ⟨sv, ev, sn, tm, h.st.boxed h.rs.box (by decide) h.rs.hp ((Kept.refl [p] w).setCell (.inl (by simp)) _), h.rs.put_pre tyF_ok (Iv_N (n : Int)) (by rw [h.len]; omega) rfl⟩
theorem FS.put_st {w2 : World} {sv' : Value} {st' : List Int} (h : FS B w p m k sv ev sn tm) (k2 : Kept sv.ownBlock.toList w w2) (hO : Out 2 1 B.w0 w2 sv' (rowJ st')) : w2.cell? ⟨p, 8, none⟩ = some sv ∧ w2.frozen? ⟨p, 8, none⟩ = false ∧ FSt B (w2.setCell ⟨p, 8, none⟩ sv') p { m with st := st' } k := by
 have gv : sv.ownBlock ≠ some p := ownsR_ne h.st.own h.rs.box (by decide)
 have h2 : RS tyF B.w0 w2 p (preF B (m.at_ : Int) sv) m.reg m.ev m.sent m.tm k ev sn tm := ⟨k2.keeps h.rs.box (by simpa using gv), h.rs.r8, h.rs.ev.besides h.st (by decide) k2, h.rs.sn.besides h.st (by decide) k2, h.rs.tm.besides h.st (by decide) k2, h.rs.hp⟩
 exact ⟨h2.cell_pre rfl, h2.free _, sv', ev, sn, tm, hO.boxed h2.box (by decide) h.rs.hp ((Kept.refl [p] w2).setCell (.inl (by simp)) _), h2.put_pre tyF_ok sv' (by rw [h.len]; omega) rfl⟩
set_option maxHeartbeats 2000000 in
theorem push37 (h : FSt B w p m k) (x : Int) (hl : m.st.length ≤ 900) : Calls Tryz.prog 131 #[.pointer (some ⟨p, 0, none⟩), .int .i64 x] w fun e w' => e = .returned (.tuple #[]) ∧ FSt B w' p { m with st := m.st ++ [x] } k := by
 obtain ⟨sv, ev, sn, tm, h⟩ := h
 have c0 := h.c_st
 have hl' : (rowJ m.st).length ≤ 900000 := by rw [rowJ_length]; omega
 obtain ⟨ad, c, w2, hrun, hO, k2, hN⟩ := append_rowR rt28_N h.st.own [.int .i64 x] rfl (by simp [Value.oneCell']) hl' 2 (0, 0) 79
 have e1 : rowJ (m.st ++ [x]) = rowJ m.st ++ [[.int .i64 x]] := by simp [rowJ]
 have hO2 : Out 2 1 B.w0 w2 (.slice ad ((rowJ m.st).length + 1) c) (rowJ (m.st ++ [x])) := ⟨by rw [e1]; exact hO, fun g' hg' => by
  rcases hN g' hg' with h3 | h3
  ·exact h.st.new g' h3
  ·exact Nat.le_trans h.st.kept.size h3, h.st.kept.trans k2 (fun x hx => .inr (h.st.new x (by simpa using hx)))⟩
 obtain ⟨c2, f2, H2⟩ := h.put_st k2 hO2
 have HM := Hid.mk H2
 obtain ⟨a', c', rfl, -, -⟩ := h.st.form
 clear h hO hO2 k2 hN H2 e1 hl'
 generalize (rowJ m.st).length = n at *
 go_enter Tryz.func131, Tryz.ntmps131
 go_wp2_with (at_builtin; refine wpList_append_run 79 79 (.tmp 8) (.tmp 10) rfl (by rfl) _ _ rfl rfl _ _ hrun ?_)
 go_end0
 exact ⟨rfl, HM.out⟩
set_option maxHeartbeats 2000000 in
theorem pop36 (h : FSt B w p m k) (hne : m.st ≠ []) (hl : m.st.length ≤ 900) : Calls Tryz.prog 130 #[.pointer (some ⟨p, 0, none⟩)] w fun e w' => e = .returned (.int .i64 (m.st.getLastD 0)) ∧ FSt B w' p { m with st := m.st.dropLast } k ∧ Kept [p] w w' := by
 obtain ⟨sv, ev, sn, tm, h⟩ := h
 obtain ⟨n, hn⟩ : ∃ n, m.st.length = n + 1 := ⟨m.st.length - 1, by have := List.length_pos_iff.2 hne; omega⟩
 have c0 := h.c_st
 have hR := h.st.own.reads (wideJ _)
 obtain ⟨a, c, rfl, hc1, hc2⟩ := h.st.form
 obtain ⟨x, hx⟩ : ∃ v, m.st.getLast? = some v := ⟨_, List.getLast?_eq_some_getLast hne⟩
 have ex : m.st.getLastD 0 = x := by rw [List.getLastD_eq_getLast?, hx]; rfl
 rw [List.getLast?_eq_getElem?, hn, Nat.add_sub_cancel] at hx
 rw [ex]
 obtain ⟨b, o, rfl, hcx⟩ := rowJ_at hR hx
 have hln : (rowJ m.st).length = n + 1 := by rw [rowJ_length, hn]
 have hdl : m.st.dropLast = m.st.take n := by rw [List.dropLast_eq_take, hn, Nat.add_sub_cancel]
 have hdn : (rowJ m.st.dropLast).length = n := by rw [rowJ_length, List.length_dropLast, hn, Nat.add_sub_cancel]
 obtain ⟨W1, e1, k1, hz1, hb1⟩ := box1 w (.cells #[] 2)
 have hP : ReadsR 1 W1 (.slice (some ⟨b, o, none⟩) n c) (rowJ m.st.dropLast) := by
  obtain ⟨a', cap, e, h2, h3, h4, h5⟩ := hR.keep k1
  simp only [Value.slice.injEq] at e
  obtain ⟨rfl, -, rfl⟩ := e
  obtain ⟨b', o', e', hh⟩ := h5 (by intro e; rw [e] at hln; simp at hln)
  refine ⟨_, _, by rw [hdn], by omega, h3, by simp, fun _ => ⟨b', o', e', fun j r hr => hh j r ?_⟩⟩
  rw [hdl] at hr
  simp only [rowJ, List.map_take] at hr ⊢
  rw [List.getElem?_take] at hr
  split at hr
  ·exact hr
  ·cases hr
 have hown : OwnsR 2 1 W1 (.slice (some ⟨w.heap.size, 0, none⟩) 0 0) [] := ownsR_block (rs := []) hb1 (fun r hr => by simp at hr) rfl (by unfold maxLen; omega)
 obtain ⟨ad, cc, W2, hrun, hO, hg, hN⟩ := run_appendR rt28_N W1 79 _ [] hown _ (rowJ m.st.dropLast) (wideJ _) hP (by rw [hdn]; simp; omega)
 have k2 : Kept [w.heap.size] W1 W2 := ((Kept.refl [] W1).mono (by simp)).grown hg (fun x hx => .inl (by simp [Value.ownBlock] at hx; simp [hx]))
 have k3 : Kept [] w W2 := k1.trans k2 (fun x hx => .inr (by simp at hx; omega))
 simp only [List.nil_append, List.length_nil, Nat.zero_add] at hrun hO hN
 rw [hdn] at hrun hO hN
 have hO2 : Out 2 1 B.w0 W2 (.slice ad n cc) (rowJ m.st.dropLast) := ⟨hO, fun g' hg' => by
  rcases hN g' hg' with h3 | h3
  ·simp [Value.ownBlock] at h3; rw [← h3]; exact h.st.kept.size
  ·exact Nat.le_trans h.st.kept.size (Nat.le_trans k1.size h3), h.st.kept.then k3⟩
 obtain ⟨c2, f2, H2⟩ := h.put_st (k3.mono (by simp)) hO2
 have HM := Hid.mk H2
 have HK : Hid (Kept [p] w (W2.setCell ⟨p, 8, none⟩ (.slice ad n cc))) := (k3.mono (by simp)).setCell (.inl (by simp)) _
 have c3 : W1.cell? ⟨p, 8, none⟩ = some (.slice (some ⟨b, o, none⟩) (n + 1) c) := by rw [← hln]; exact k1.cell_eq c0
 rw [hln] at c0 hc1
 rw [hln] at c2
 have q0 : (0 : Int) ≤ (n : Int) := by omega
 have q1 : (n : Int) < ((n + 1 : Nat) : Int) := by omega
 have q2 : (n : Int) ≤ (c : Int) := by omega
 have q3 : n < n + 1 := by omega
 have q4 : n ≤ c := by omega
 have q5 : IntKind.i64.wrap (((n + 1 : Nat) : Int) - 1) = (n : Int) := by rw [show ((n + 1 : Nat) : Int) - 1 = (n : Int) by omega]; exact w64_small _ (by omega)
 clear h hO hO2 k2 k3 hN H2 hP hown hg hdn hdl hln hR hx ex hn hne hb1 hz1 hl
 go_enter Tryz.func130, Tryz.ntmps130
 go_wp2_with (at_builtin; refine wpList_append_run 79 79 (.tmp 19) (.tmp 25) rfl (by rfl) _ _ rfl rfl _ _ hrun ?_)
 go_ret
 exact ⟨rfl, HM.out, HK.out⟩
end
section
variable {B : Bs} {w w' : World} {p : Nat} {m : Mc} {k : Nat} {sv ev sn tm : Value}
theorem yes48 (b : Bool) : Calls Tryz.prog 152 #[.bool b] w fun e w' => e = .returned (.int .i64 (if b = true then 1 else 0)) ∧ w = w' := by
 cases b
 ·go_enter Tryz.func152, Tryz.ntmps152
  go_wp2_with fail
  go_ret
  exact ⟨rfl, rfl⟩
 ·go_enter Tryz.func152, Tryz.ntmps152
  go_wp2_with fail
  go_ret
  exact ⟨rfl, rfl⟩
set_option maxHeartbeats 2000000 in
theorem value39_1 (h : FSt B w p m k) (arg x y : Int) : Calls Tryz.prog 133 #[.pointer (some ⟨p, 0, none⟩), .agg #[.int .i64 1, .int .i64 arg], .int .i64 x, .int .i64 y] w fun e w' => e = .returned (.int .i64 (arg)) ∧ Kept [] w w' := by
 obtain ⟨W0, e0, k0, -, hb⟩ := box1 w (.cells #[.int .i64 1, .int .i64 arg] 108)
 obtain ⟨y0, y1⟩ := cells2_N hb
 have HM := Hid.mk (h.keep k0)
 have HK := Hid.mk k0
 clear h
 go_enter Tryz.func133, Tryz.ntmps133
 go_wp2_with fail
 go_ret
 exact ⟨rfl, HK.out⟩
set_option maxHeartbeats 2000000 in
theorem value39_5 (h : FSt B w p m k) (arg x y : Int) : Calls Tryz.prog 133 #[.pointer (some ⟨p, 0, none⟩), .agg #[.int .i64 5, .int .i64 arg], .int .i64 x, .int .i64 y] w fun e w' => e = .returned (.int .i64 (B.l.kind)) ∧ Kept [] w w' := by
 obtain ⟨W0, e0, k0, -, hb⟩ := box1 w (.cells #[.int .i64 5, .int .i64 arg] 108)
 obtain ⟨y0, y1⟩ := cells2_N hb
 have HM := Hid.mk (h.keep k0)
 have HK := Hid.mk k0
 obtain ⟨sv, ev, sn, tm, h'⟩ := HM.out
 have c0 : W0.cell? ⟨p, 4, none⟩ = some (.int .i64 B.l.kind) := h'.fix rfl
 clear h'
 clear h
 go_enter Tryz.func133, Tryz.ntmps133
 go_wp2_with fail
 go_ret
 exact ⟨rfl, HK.out⟩
set_option maxHeartbeats 2000000 in
theorem value39_22 (h : FSt B w p m k) (arg x y : Int) : Calls Tryz.prog 133 #[.pointer (some ⟨p, 0, none⟩), .agg #[.int .i64 22, .int .i64 arg], .int .i64 x, .int .i64 y] w fun e w' => e = .returned (.int .i64 (B.now)) ∧ Kept [] w w' := by
 obtain ⟨W0, e0, k0, -, hb⟩ := box1 w (.cells #[.int .i64 22, .int .i64 arg] 108)
 obtain ⟨y0, y1⟩ := cells2_N hb
 have HM := Hid.mk (h.keep k0)
 have HK := Hid.mk k0
 obtain ⟨sv, ev, sn, tm, h'⟩ := HM.out
 have c0 : W0.cell? ⟨p, 6, none⟩ = some (.int .i64 B.now) := h'.fix rfl
 clear h'
 clear h
 go_enter Tryz.func133, Tryz.ntmps133
 go_wp2_with fail
 go_ret
 exact ⟨rfl, HK.out⟩
set_option maxHeartbeats 2000000 in
theorem value39_23 (h : FSt B w p m k) (arg x y : Int) : Calls Tryz.prog 133 #[.pointer (some ⟨p, 0, none⟩), .agg #[.int .i64 23, .int .i64 arg], .int .i64 x, .int .i64 y] w fun e w' => e = .returned (.int .i64 (w64 (B.l.ser : Int))) ∧ Kept [] w w' := by
 obtain ⟨W0, e0, k0, -, hb⟩ := box1 w (.cells #[.int .i64 23, .int .i64 arg] 108)
 obtain ⟨y0, y1⟩ := cells2_N hb
 have HM := Hid.mk (h.keep k0)
 have HK := Hid.mk k0
 obtain ⟨sv, ev, sn, tm, h'⟩ := HM.out
 have c0 : W0.cell? ⟨p, 3, none⟩ = some (.int .u64 (B.l.ser : Int)) := h'.fix rfl
 clear h'
 rw [← w64_wrap]
 clear h
 go_enter Tryz.func133, Tryz.ntmps133
 go_wp2_with fail
 go_ret
 exact ⟨rfl, HK.out⟩
set_option maxHeartbeats 2000000 in
theorem value39_6 (h : FSt B w p m k) (arg x y : Int) : Calls Tryz.prog 133 #[.pointer (some ⟨p, 0, none⟩), .agg #[.int .i64 6, .int .i64 arg], .int .i64 x, .int .i64 y] w fun e w' => e = .returned (.int .i64 (w64 (x + y))) ∧ Kept [] w w' := by
 obtain ⟨W0, e0, k0, -, hb⟩ := box1 w (.cells #[.int .i64 6, .int .i64 arg] 108)
 obtain ⟨y0, y1⟩ := cells2_N hb
 have HM := Hid.mk (h.keep k0)
 have HK := Hid.mk k0
 rw [← w64_wrap]
 clear h
 go_enter Tryz.func133, Tryz.ntmps133
 go_wp2_with fail
 go_ret
 exact ⟨rfl, HK.out⟩
set_option maxHeartbeats 2000000 in
theorem value39_7 (h : FSt B w p m k) (arg x y : Int) : Calls Tryz.prog 133 #[.pointer (some ⟨p, 0, none⟩), .agg #[.int .i64 7, .int .i64 arg], .int .i64 x, .int .i64 y] w fun e w' => e = .returned (.int .i64 (w64 (x - y))) ∧ Kept [] w w' := by
 obtain ⟨W0, e0, k0, -, hb⟩ := box1 w (.cells #[.int .i64 7, .int .i64 arg] 108)
 obtain ⟨y0, y1⟩ := cells2_N hb
 have HM := Hid.mk (h.keep k0)
 have HK := Hid.mk k0
 rw [← w64_wrap]
 clear h
 go_enter Tryz.func133, Tryz.ntmps133
 go_wp2_with fail
 go_ret
 exact ⟨rfl, HK.out⟩
set_option maxHeartbeats 2000000 in
theorem value39_8 (h : FSt B w p m k) (arg x y : Int) : Calls Tryz.prog 133 #[.pointer (some ⟨p, 0, none⟩), .agg #[.int .i64 8, .int .i64 arg], .int .i64 x, .int .i64 y] w fun e w' => e = .returned (.int .i64 (w64 (x * y))) ∧ Kept [] w w' := by
 obtain ⟨W0, e0, k0, -, hb⟩ := box1 w (.cells #[.int .i64 8, .int .i64 arg] 108)
 obtain ⟨y0, y1⟩ := cells2_N hb
 have HM := Hid.mk (h.keep k0)
 have HK := Hid.mk k0
 rw [← w64_wrap]
 clear h
 go_enter Tryz.func133, Tryz.ntmps133
 go_wp2_with fail
 go_ret
 exact ⟨rfl, HK.out⟩
set_option maxHeartbeats 2000000 in
theorem value39_9 (h : FSt B w p m k) (arg x y : Int) : Calls Tryz.prog 133 #[.pointer (some ⟨p, 0, none⟩), .agg #[.int .i64 9, .int .i64 arg], .int .i64 x, .int .i64 y] w fun e w' => e = .returned (.int .i64 (if x < y then 1 else 0)) ∧ Kept [] w w' := by
 obtain ⟨W0, e0, k0, -, hb⟩ := box1 w (.cells #[.int .i64 9, .int .i64 arg] 108)
 obtain ⟨y0, y1⟩ := cells2_N hb
 have HM := Hid.mk (h.keep k0)
 have HK := Hid.mk k0
 clear h
 go_enter Tryz.func133, Tryz.ntmps133
 go_wp2_with (go_at_call 152; refine (yes48 _).mono ?_; rintro e w9 ⟨rfl, rfl⟩)
 all_goals go_ret
 all_goals exact ⟨by simp, HK.out⟩
set_option maxHeartbeats 2000000 in
theorem value39_10 (h : FSt B w p m k) (arg x y : Int) : Calls Tryz.prog 133 #[.pointer (some ⟨p, 0, none⟩), .agg #[.int .i64 10, .int .i64 arg], .int .i64 x, .int .i64 y] w fun e w' => e = .returned (.int .i64 (if x = y then 1 else 0)) ∧ Kept [] w w' := by
 obtain ⟨W0, e0, k0, -, hb⟩ := box1 w (.cells #[.int .i64 10, .int .i64 arg] 108)
 obtain ⟨y0, y1⟩ := cells2_N hb
 have HM := Hid.mk (h.keep k0)
 have HK := Hid.mk k0
 clear h
 go_enter Tryz.func133, Tryz.ntmps133
 go_wp2_with (go_at_call 152; refine (yes48 _).mono ?_; rintro e w9 ⟨rfl, rfl⟩)
 all_goals go_ret
 all_goals exact ⟨by simp, HK.out⟩
set_option maxHeartbeats 2000000 in
theorem value39_11 (h : FSt B w p m k) (arg x y : Int) : Calls Tryz.prog 133 #[.pointer (some ⟨p, 0, none⟩), .agg #[.int .i64 11, .int .i64 arg], .int .i64 x, .int .i64 y] w fun e w' => e = .returned (.int .i64 (if x = 0 then 1 else 0)) ∧ Kept [] w w' := by
 obtain ⟨W0, e0, k0, -, hb⟩ := box1 w (.cells #[.int .i64 11, .int .i64 arg] 108)
 obtain ⟨y0, y1⟩ := cells2_N hb
 have HM := Hid.mk (h.keep k0)
 have HK := Hid.mk k0
 clear h
 go_enter Tryz.func133, Tryz.ntmps133
 go_wp2_with (go_at_call 152; refine (yes48 _).mono ?_; rintro e w9 ⟨rfl, rfl⟩)
 all_goals go_ret
 all_goals exact ⟨by simp, HK.out⟩
set_option maxHeartbeats 2000000 in
theorem value39_2 (h : FSt B w p m k) (arg x y : Int) (h0 : 0 ≤ arg ∧ arg ≤ 7) : Calls Tryz.prog 133 #[.pointer (some ⟨p, 0, none⟩), .agg #[.int .i64 2, .int .i64 arg], .int .i64 x, .int .i64 y] w fun e w' => e = .returned (.int .i64 (m.reg.getD arg.toNat 0)) ∧ Kept [] w w' := by
 obtain ⟨W0, e0, k0, -, hb⟩ := box1 w (.cells #[.int .i64 2, .int .i64 arg] 108)
 obtain ⟨y0, y1⟩ := cells2_N hb
 have HM := Hid.mk (h.keep k0)
 have HK := Hid.mk k0
 obtain ⟨n, rfl⟩ : ∃ n : Nat, arg = (n : Int) := ⟨arg.toNat, by omega⟩
 rw [Int.toNat_natCast]
 obtain ⟨sv, ev, sn, tm, h'⟩ := HM.out
 have hg : m.reg[n]? = some (m.reg.getD n 0) := by rw [List.getElem?_eq_getElem (by rw [h'.rs.r8]; omega)]; simp [List.getElem?_eq_getElem (show n < m.reg.length by rw [h'.rs.r8]; omega)]
 have c0 : W0.drew.cell? ⟨p, 9 + n, none⟩ = some (Iv_N (m.reg.getD n 0)) := h'.rs.cell_res (by rw [h'.len]) (cellsR_reg hg)
 have S1 : W0.drew.cell? ⟨w.heap.size, 1, none⟩ = some (.int .i64 (n : Int)) := y1
 have q0 : (0 : Int) ≤ (n : Int) := by omega
 have q1 : (n : Int) < 8 := by omega
 clear h' hg h0
 generalize m.reg.getD n 0 = v at *
 clear h
 go_enter Tryz.func133, Tryz.ntmps133
 go_wp2_with fail
 go_region
 go_wp2_with fail
 go_ret
 exact ⟨rfl, HK.out.drew⟩
set_option maxHeartbeats 2000000 in
theorem value39_4 (h : FSt B w p m k) (arg x y : Int) (hB : B.Ok) (h0 : 0 ≤ arg ∧ arg ≤ 7) : Calls Tryz.prog 133 #[.pointer (some ⟨p, 0, none⟩), .agg #[.int .i64 4, .int .i64 arg], .int .i64 x, .int .i64 y] w fun e w' => e = .returned (.int .i64 (B.l.args.getD arg.toNat 0)) ∧ Kept [] w w' := by
 obtain ⟨W0, e0, k0, -, hb⟩ := box1 w (.cells #[.int .i64 4, .int .i64 arg] 108)
 obtain ⟨y0, y1⟩ := cells2_N hb
 have HM := Hid.mk (h.keep k0)
 have HK := Hid.mk k0
 obtain ⟨n, rfl⟩ : ∃ n : Nat, arg = (n : Int) := ⟨arg.toNat, by omega⟩
 rw [Int.toNat_natCast]
 obtain ⟨sv, ev, sn, tm, h'⟩ := HM.out
 have hA := hB.args.keep h'.rs.kept
 obtain ⟨a, c, hav, h1, h2⟩ := hA.form
 rw [rowJ_length] at hav h1
 have c5 : W0.drew.cell? ⟨p, 5, none⟩ = some (.slice a B.l.args.length c) := by rw [← hav]; exact h'.fix rfl
 have S1 : W0.drew.cell? ⟨w.heap.size, 1, none⟩ = some (.int .i64 (n : Int)) := y1
 have c6 : W0.drew.drew.cell? ⟨p, 5, none⟩ = some (.slice a B.l.args.length c) := c5
 have S2 : W0.drew.drew.cell? ⟨w.heap.size, 1, none⟩ = some (.int .i64 (n : Int)) := y1
 rw [hav] at hA
 clear hav h' h0
 clear h
 by_cases hlt : n < B.l.args.length
 ·have hg : B.l.args[n]? = some (B.l.args.getD n 0) := by simp [List.getElem?_eq_getElem hlt]
  obtain ⟨b, o, rfl, hc⟩ := rowJ_at hA hg
  have hc2 : W0.drew.drew.cell? ⟨b, o + n, none⟩ = some (.int .i64 (B.l.args.getD n 0)) := hc
  have q0 : (0 : Int) ≤ (n : Int) := by omega
  have q1 : (n : Int) < (B.l.args.length : Int) := by omega
  clear hA hg
  generalize B.l.args.getD n 0 = x at *
  generalize B.l.args.length = nn at *
  go_enter Tryz.func133, Tryz.ntmps133
  go_wp2_with fail
  go_region
  go_wp2_with fail
  go_region
  go_wp2_with fail
  go_ret
  exact ⟨rfl, HK.out.drew.drew⟩
 ·have q : ¬ (n : Int) < (B.l.args.length : Int) := by omega
  have e0 : B.l.args.getD n 0 = 0 := by simp [List.getElem?_eq_none (Nat.le_of_not_lt hlt)]
  rw [e0]
  clear hA e0
  generalize B.l.args.length = nn at *
  go_enter Tryz.func133, Tryz.ntmps133
  go_wp2_with fail
  go_region
  go_wp2_with fail
  go_ret
  exact ⟨rfl, HK.out.drew⟩
end
def OuF (B : Bs) (p : Nat) (k : Nat) : Ou → Bool → Int → World → Prop
 | .go m, b, c, w => b = true ∧ c = 0 ∧ FSt B w p m k
 | .halt m, b, c, w => b = false ∧ c = 0 ∧ FSt B w p m k
 | .err d, b, c, w => b = false ∧ c = d ∧ ∃ m, FSt B w p m k
def Ret2 (R : Bool → Int → World → Prop) (e : Ending) (w : World) : Prop := ∃ b c, e = .returned (.tuple #[.bool b, .int .i64 c]) ∧ R b c w
section
variable {B : Bs} {w w' : World} {p : Nat} {m : Mc} {k : Nat} {sv ev sn tm : Value}
theorem FS.c_ev (h : FS B w p m k sv ev sn tm) : w.cell? ⟨p, 17, none⟩ = some ev := h.rs.cell_res (by rw [h.len]) (cellsR_ev h.rs.r8)
theorem FS.c_sn (h : FS B w p m k sv ev sn tm) : w.cell? ⟨p, 18, none⟩ = some sn := h.rs.cell_res (by rw [h.len]) (cellsR_sn h.rs.r8)
theorem FS.c_tm (h : FS B w p m k sv ev sn tm) : w.cell? ⟨p, 19, none⟩ = some tm := h.rs.cell_res (by rw [h.len]) (cellsR_tm h.rs.r8)
theorem FS.c_k (h : FS B w p m k sv ev sn tm) : w.cell? ⟨p, 20, none⟩ = some (Iv_N (k : Int)) := h.rs.cell_res (by rw [h.len]) (cellsR_k h.rs.r8)
theorem FS.addSn (h : FS B w p m k sv ev sn tm) (hl : m.sent.length ≤ 900) (x : Sn) : ∃ ad c w2, (Builtin.append_ #[111, 111] 111 #[sn, .slice (some ⟨w.heap.size, 0, none⟩) 1 1]).run Tryz.prog (w.alloc (.cells #[.string ⟨x.to.toArray⟩, .int .i64 x.kind, .int .i64 x.arg] 117)) = .ok (.slice ad (m.sent.length + 1) c) w2 ∧ w2.cell? ⟨p, 18, none⟩ = some sn ∧ w2.frozen? ⟨p, 18, none⟩ = false ∧ FSt B (w2.setCell ⟨p, 18, none⟩ (.slice ad (m.sent.length + 1) c)) p { m with sent := m.sent ++ [x] } k := by
 obtain ⟨ad, c', w2, hrun, c2, f2, H2, -, H3⟩ := h.rs.addSn2 rt46F tyF_ok (by omega) x 18 (by rw [h.len]) 117 (0, 0) 111
 exact ⟨ad, c', w2, hrun, c2, f2, sv, _, _, _, H3 2 1 sv _ (by decide) (by decide) h.st, H2⟩
theorem FS.addTm (h : FS B w p m k sv ev sn tm) (hl : m.tm.length ≤ 900) (x : Tm) : ∃ ad c w2, (Builtin.append_ #[46, 46] 46 #[tm, .slice (some ⟨w.heap.size, 0, none⟩) 1 1]).run Tryz.prog (w.alloc (.cells #[.string ⟨x.nm.toArray⟩, .bool x.can, .int .i64 x.due, .int .i64 x.per, .int .i64 x.kind] 193)) = .ok (.slice ad (m.tm.length + 1) c) w2 ∧ w2.cell? ⟨p, 19, none⟩ = some tm ∧ w2.frozen? ⟨p, 19, none⟩ = false ∧ FSt B (w2.setCell ⟨p, 19, none⟩ (.slice ad (m.tm.length + 1) c)) p { m with tm := m.tm ++ [x] } k := by
 obtain ⟨ad, c', w2, hrun, c2, f2, H2, -, H3⟩ := h.rs.addTm2 rt47F tyF_ok (by omega) x 19 (by rw [h.len]) 193 (0, 0) 46
 exact ⟨ad, c', w2, hrun, c2, f2, sv, _, _, _, H3 2 1 sv _ (by decide) (by decide) h.st, H2⟩
theorem FS.addEv (h : FS B w p m k sv ev sn tm) (hl : m.ev.length ≤ 900) (x : Ev) : ∃ ad c w2, (Builtin.append_ #[27, 27] 27 #[ev, .slice (some ⟨w.heap.size, 0, none⟩) 1 1]).run Tryz.prog (w.alloc (.cells #[.int .i64 (x.r : Int), .int .i64 x.v] 93)) = .ok (.slice ad (m.ev.length + 1) c) w2 ∧ w2.cell? ⟨p, 17, none⟩ = some ev ∧ w2.frozen? ⟨p, 17, none⟩ = false ∧ FSt B (w2.setCell ⟨p, 17, none⟩ (.slice ad (m.ev.length + 1) c)) p { m with ev := m.ev ++ [x] } k := by
 obtain ⟨ad, c', w2, hrun, c2, f2, H2, -, H3⟩ := h.rs.addEv2 rt45F tyF_ok (by omega) x 17 (by rw [h.len]) 93 (0, 0) 27
 exact ⟨ad, c', w2, hrun, c2, f2, sv, _, _, _, H3 2 1 sv _ (by decide) (by decide) h.st, H2⟩
theorem FS.put_reg (h : FS B w p m k sv ev sn tm) (r : Nat) (hr : r ≤ 7) (x : Int) : FS B (w.setCell ⟨p, 9 + r, none⟩ (Iv_N x)) p { m with reg := m.reg.set r x } k sv ev sn tm :=
 ⟨h.st.boxed h.rs.box (by decide) h.rs.hp ((Kept.refl [p] w).setCell (.inl (by simp)) _), h.rs.put_reg tyF_ok x (by rw [h.len]) (by omega)⟩
theorem FS.put_k (h : FS B w p m k sv ev sn tm) (q : Nat) : FS B (w.setCell ⟨p, 20, none⟩ (Iv_N (q : Int))) p m q sv ev sn tm :=
 ⟨h.st.boxed h.rs.box (by decide) h.rs.hp ((Kept.refl [p] w).setCell (.inl (by simp)) _), h.rs.put_k tyF_ok (by rw [h.len]) rfl⟩
theorem FS.c_name (hB : B.Ok) (h : FS B w p m k sv ev sn tm) {n : Nat} {s : List UInt8} (hn : B.pg.names[n]? = some s) : ∃ b o c, w.cell? ⟨p, 0, none⟩ = some (.slice (some ⟨b, o, none⟩) B.pg.names.length c) ∧ w.cell? ⟨b, o + n, none⟩ = some (.string ⟨s.toArray⟩) := by
 obtain ⟨a, c, b, d, h1, h2, -⟩ := hB.prog.form
 have hN := (hB.prog.keep h.rs.kept).names
 rw [h1] at hN
 obtain ⟨hl, he⟩ := List.getElem?_eq_some_iff.1 hn
 obtain ⟨b, o, rfl, hc⟩ := names_at hN hl
 rw [he] at hc
 exact ⟨b, o, c, by rw [← h1]; exact h.fix rfl, hc⟩
def SendF (B : Bs) (p : Nat) (m : Mc) (k : Nat) (to : List UInt8) (x y : Int) (b : Bool) (c : Int) (w' : World) : Prop := (4 ≤ m.sent.length ∧ b = false ∧ c = 12 ∧ FSt B w' p m k) ∨ (m.sent.length < 4 ∧ b = true ∧ c = 0 ∧ FSt B w' p { m with sent := m.sent ++ [⟨to, x, y⟩] } k)
set_option maxHeartbeats 4000000 in
theorem out38_17 (hB : B.Ok) (h : FSt B w p m k) (n : Nat) (s : List UInt8) (hn : B.pg.names[n]? = some s) (hne : s ≠ []) (x y : Int) (h4 : m.sent.length ≤ 4) : Calls Tryz.prog 132 #[.pointer (some ⟨p, 0, none⟩), .agg #[.int .i64 17, .int .i64 (n : Int)], .int .i64 x, .int .i64 y] w fun e w' => Ret2 (SendF B p m k s x y) e w' := by
 obtain ⟨W0, e0, k0, -, hb⟩ := box1 w (.cells #[.int .i64 17, .int .i64 (n : Int)] 108)
 obtain ⟨y0, y1⟩ := cells2_N hb
 obtain ⟨sv, ev, sn, tm, h0⟩ := h.keep k0
 obtain ⟨b, o, c, c0, c1⟩ := h0.c_name hB hn
 have c0 : W0.drew.cell? ⟨p, 0, none⟩ = some (.slice (some ⟨b, o, none⟩) B.pg.names.length c) := c0
 have c1 : W0.drew.cell? ⟨b, o + n, none⟩ = some (.string ⟨s.toArray⟩) := c1
 have c2 : W0.cell? ⟨p, 2, none⟩ = some (.string ⟨B.l.fr.toArray⟩) := h0.fix rfl
 have S1 : W0.drew.cell? ⟨w.heap.size, 1, none⟩ = some (.int .i64 (n : Int)) := y1
 have q0 : (0 : Int) ≤ (n : Int) := by omega
 have q1 : (n : Int) < (B.pg.names.length : Int) := by have := (List.getElem?_eq_some_iff.1 hn).1; omega
 have hne' : s.isEmpty = false := by simpa using hne
 have h1 := h0.keep (Kept.refl [] W0).drew
 obtain ⟨sa, sc, rfl, -, -⟩ := h1.rs.sn.form
 rw [rowS_length] at *
 have c3 : W0.drew.cell? ⟨p, 18, none⟩ = some (.slice sa m.sent.length sc) := h1.c_sn
 by_cases hq : 4 ≤ m.sent.length
 ·have HM : Hid (FSt B W0.drew p m k) := ⟨_, _, _, _, h1⟩
  have HQ := Hid.mk hq
  have hqI : (4 : Int) ≤ (m.sent.length : Int) := by omega
  clear h h0 h1 hq h4 hB hn hne
  go_enter Tryz.func132, Tryz.ntmps132
  go_wp2_with fail
  go_region
  go_wp2_with fail
  go_ret2
  exact ⟨_, _, rfl, .inl ⟨HQ.out, rfl, rfl, HM.out⟩⟩
 ·obtain ⟨ad, c', w2, hrun, r0, r1, H2⟩ := h1.addSn (by omega) ⟨s, x, y⟩
  have HM := Hid.mk H2
  have HQ : Hid (m.sent.length < 4) := by have := hq; show m.sent.length < 4; omega
  have hqI : ¬ (4 : Int) ≤ (m.sent.length : Int) := by omega
  dsimp only at hrun
  clear h h0 h1 hq h4 hB hn hne H2
  go_enter Tryz.func132, Tryz.ntmps132
  go_wp2_with fail
  go_region
  go_wp2_with (at_builtin; refine wpList_append_run 111 111 (.tmp 48) (.tmp 53) rfl (by rfl) _ _ rfl rfl _ _ hrun ?_)
  go_ret2
  exact ⟨_, _, rfl, .inr ⟨HQ.out, rfl, rfl, HM.out⟩⟩
def ReplyF (B : Bs) (p : Nat) (m : Mc) (k : Nat) (x y : Int) (b : Bool) (c : Int) (w' : World) : Prop := (B.l.fr = [] ∧ b = true ∧ c = 0 ∧ FSt B w' p m k) ∨ (B.l.fr ≠ [] ∧ SendF B p m k B.l.fr x y b c w')
set_option maxHeartbeats 4000000 in
theorem out38_18 (h : FSt B w p m k) (arg x y : Int) : Calls Tryz.prog 132 #[.pointer (some ⟨p, 0, none⟩), .agg #[.int .i64 18, .int .i64 arg], .int .i64 x, .int .i64 y] w fun e w' => Ret2 (ReplyF B p m k x y) e w' := by
 obtain ⟨W0, e0, k0, -, hb⟩ := box1 w (.cells #[.int .i64 18, .int .i64 arg] 108)
 obtain ⟨y0, y1⟩ := cells2_N hb
 obtain ⟨sv, ev, sn, tm, h0⟩ := h.keep k0
 have c2 : W0.cell? ⟨p, 2, none⟩ = some (.string ⟨B.l.fr.toArray⟩) := h0.fix rfl
 obtain ⟨sa, sc, rfl, -, -⟩ := h0.rs.sn.form
 rw [rowS_length] at *
 have c3 : W0.cell? ⟨p, 18, none⟩ = some (.slice sa m.sent.length sc) := h0.c_sn
 have HM : Hid (FSt B W0 p m k) := ⟨_, _, _, _, h0⟩
 have HW : Hid (∀ b c W, (B.l.fr = [] ∧ b = true ∧ c = 0 ∧ FSt B W p m k) ∨ (B.l.fr ≠ [] ∧ SendF B p m k B.l.fr x y b c W) → ReplyF B p m k x y b c W) := fun b c W h => h
 generalize ReplyF B p m k x y = RF at *
 by_cases hf : B.l.fr = []
 ·have HF := Hid.mk hf
  rw [hf] at c2
  clear h h0 hf
  go_enter Tryz.func132, Tryz.ntmps132
  go_wp2_with fail
  go_ret2
  exact ⟨_, _, rfl, HW.out _ _ _ (.inl ⟨HF.out, rfl, rfl, HM.out⟩)⟩
 ·have HF := Hid.mk hf
  have hne' : B.l.fr.isEmpty = false := by simpa using hf
  by_cases hq : 4 ≤ m.sent.length
  ·have HQ := Hid.mk hq
   have hqI : (4 : Int) ≤ (m.sent.length : Int) := by omega
   clear h h0 hq hf
   generalize B.l.fr = fr at *
   go_enter Tryz.func132, Tryz.ntmps132
   go_wp2_with fail
   go_ret2
   exact ⟨_, _, rfl, HW.out _ _ _ (.inr ⟨HF.out, .inl ⟨HQ.out, rfl, rfl, HM.out⟩⟩)⟩
  ·obtain ⟨ad, c', w2, hrun, r0, r1, H2⟩ := h0.addSn (by omega) ⟨B.l.fr, x, y⟩
   have HM2 := Hid.mk H2
   have HQ : Hid (m.sent.length < 4) := by have := hq; show m.sent.length < 4; omega
   have hqI : ¬ (4 : Int) ≤ (m.sent.length : Int) := by omega
   dsimp only at hrun
   clear h h0 hq H2 hf
   generalize B.l.fr = fr at *
   go_enter Tryz.func132, Tryz.ntmps132
   go_wp2_with (at_builtin; refine wpList_append_run 111 111 (.tmp 48) (.tmp 53) rfl (by rfl) _ _ rfl rfl _ _ hrun ?_)
   go_ret2
   exact ⟨_, _, rfl, HW.out _ _ _ (.inr ⟨HF.out, .inr ⟨HQ.out, rfl, rfl, HM2.out⟩⟩)⟩
end
end Go.Proofs.YtngnenbidpojeaaGreatDoor
