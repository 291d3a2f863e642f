import Derived.Test.YtngnenbidpojeaaGreatDoorT03
import Derived.Test.YtngnenbidpojeaaGreatDoorT08
/-
 The document's outbox: New, place, there, Serial.
-/
namespace Go.Proofs.YtngnenbidpojeaaGreatDoor
set_option maxRecDepth 100000
open Go.RowKit
set_option linter.unusedVariables false
theorem rt72 : RowT 122 198 2 24 (.agg #[.string ⟨#[]⟩, .int .u64 0]) := ⟨Tryz.underlying122, by kernel_rfl, rfl, by omega, by omega⟩
def footF (p : Nat) (v u : Value) : List Nat := p :: (v.ownBlock.toList ++ u.ownBlock.toList)
theorem mem_footF {p k : Nat} {v u : Value} : k ∈ footF p v u ↔ k = p ∨ v.ownBlock = some k ∨ u.ownBlock = some k := by simp [footF, Option.mem_toList]
structure IsF (w0 w : World) (p : Nat) (v u : Value) (own : List UInt8) (K : List La) (ms : List Yq) : Prop where
 box : w.heap[p]? = some (.cells #[Sv own, v, u] 124 (0, 0))
 ys : OwnY 131 w0 w v ms
 ks : OwnsR 198 2 w u (CK K)
 fru : Fresh w0 u
 fr : w0.heap.size ≤ p
section
variable {w0 w w' : World} {p pf : Nat} {v u : Value} {own : List UInt8} {K : List La} {qs ms : List Yq}
theorem cells3 {b : Nat} {t : TypeId} {v0 v1 v2 : Value} (h : w.heap[b]? = some (.cells #[v0, v1, v2] t (0, 0))) : w.cell? ⟨b, 0, none⟩ = some v0 ∧ w.cell? ⟨b, 1, none⟩ = some v1 ∧ w.cell? ⟨b, 2, none⟩ = some v2 := by simp [World.cell?, h]
theorem free3 {b : Nat} {t : TypeId} {v0 v1 v2 : Value} (h : w.heap[b]? = some (.cells #[v0, v1, v2] t (0, 0))) : w.frozen? ⟨b, 0, none⟩ = false ∧ w.frozen? ⟨b, 1, none⟩ = false ∧ w.frozen? ⟨b, 2, none⟩ = false := by simp [World.frozen?, h]
theorem set3_1 {b : Nat} {t : TypeId} {v0 v1 v2 x : Value} (h : w.heap[b]? = some (.cells #[v0, v1, v2] t (0, 0))) : (w.setCell ⟨b, 1, none⟩ x).heap[b]? = some (.cells #[v0, x, v2] t (0, 0)) := set_at h
theorem set3_2 {b : Nat} {t : TypeId} {v0 v1 v2 x : Value} (h : w.heap[b]? = some (.cells #[v0, v1, v2] t (0, 0))) : (w.setCell ⟨b, 2, none⟩ x).heap[b]? = some (.cells #[v0, v1, x] t (0, 0)) := set_at h
theorem IsF.lt (h : IsF w0 w p v u own K ms) : p < w.heap.size := lt_of_block h.box
theorem IsF.kept0 (hF : IsF w0 w pf v u own K ms) (k : Kept [] w w') : IsF w0 w' pf v u own K ms := ⟨k.keeps hF.box (by simp), hF.ys.kept0 k, hF.ks.kept k (by simp), hF.fru, hF.fr⟩
theorem IsO.bx (h : IsO w p own K qs) : ∃ cs, w.heap[p]? = some (.cells cs 168 (0, 0)) := by obtain ⟨cs, hb, -⟩ := h.box; exact ⟨_, hb⟩
theorem rowK_form {l : List La} (h : ReadsR 2 w v (CK l)) : ∃ a c, v = .slice a l.length c ∧ l.length ≤ c ∧ c ≤ 9223372036854775807 := by
 have := ReadsR.form h
 rwa [CK_length] at this
theorem rowK_at {a : Option Addr} {n c : Nat} {l : List La} (h : ReadsR 2 w (.slice a n c) (CK l)) {j : Nat} {y : La} (hy : l[j]? = some y) : ∃ b o, a = some ⟨b, o, none⟩ ∧ w.cell? ⟨b, o + j * 2, none⟩ = some (Sv y.k) ∧ w.cell? ⟨b, o + j * 2 + 1, none⟩ = some (Uv y.s) := by
 obtain ⟨b, o, c', e, hc⟩ := ReadsR.at h j (cellsK y) (by simp [CK, hy])
 injection e with e _ _
 have h0 := hc 0 _ rfl
 have h1 := hc 1 _ rfl
 rw [Nat.add_zero] at h0
 exact ⟨b, o, e, h0, h1⟩
theorem IsF.krow (h : IsF w0 w p v u own K ms) : ReadsR 2 w u (CK K) := h.ks.reads (CK_wide K)
set_option maxHeartbeats 1000000 in
theorem new12 (own : List UInt8) (h : isKey own = true) (hs : w0.heap.size ≤ w.heap.size) : Calls Tryz.prog 77 #[Sv own] w fun e w' => ∃ p, e = .returned (.tuple #[.pointer (some ⟨p, 0, none⟩), .int .i64 0]) ∧ IsF w0 w' p (.slice none 0 0) (.slice none 0 0) own [] [] ∧ Kept [] w w' := by
 have hl := (isKey_iff own).1 h
 have HK := Hid.mk (key28 (w := w) own (by omega))
 rw [h] at HK
 clear h hl
 go_enter Tryz.func77, Tryz.ntmps77
 go_wp2_with fail
 refine HK.out.mono ?_
 rintro e w1 ⟨rfl, rfl⟩
 go_wp2_with fail
 go_ret2
 exact ⟨_, rfl, ⟨heap_alloc_new _ _, OwnY.nil _ _ _, OwnsR.nil _ _ _, fresh_nil _ _, hs⟩, (Kept.refl [] _).alloc _⟩
theorem bytesLess_eq (a b : List UInt8) : Op.bytesLess a b = decide (a < b) := by
 induction a generalizing b with
 | nil => cases b <;> simp [Op.bytesLess]
 | cons x a ih =>
  cases b with
  | nil => simp [Op.bytesLess]
  | cons y b =>
   rw [Op.bytesLess, Bool.eq_iff_iff]
   simp [List.cons_lt_cons_iff, ih]
set_option maxHeartbeats 1000000 in
theorem place67 {a : Option Addr} {n c : Nat} (hb : w.cell? ⟨p, 2, none⟩ = some (.slice a n c)) (hr : ReadsR 2 w (.slice a n c) (CK K)) (to : List UInt8) (hn : n ≤ 1000000) : Calls Tryz.prog 106 #[.pointer (some ⟨p, 0, none⟩), Sv to] w fun e w' => e = .returned (.int .i64 (pla K to : Int)) ∧ w = w' := by
 obtain ⟨a', c', e, h1, h2⟩ := rowK_form hr
 injection e with e1 e2 e3
 subst e1 e3
 have HN := Hid.mk e2
 have HR := Hid.mk hr
 have hPle := pla_le K to
 rw [← e2] at hPle
 clear hr e2 h1
 have HL : Hid (∀ j y, K[j]? = some y → j < pla K to → y.k < to) := fun j y h h' => pla_lt h h'
 have HA : Hid (∀ y, K[pla K to]? = some y → ¬ y.k < to) := fun y h => pla_at h
 generalize pla K to = P at *
 go_enter Tryz.func106, Tryz.ntmps106
 go_wp2_with fail
 go_loopw [5] (fun i wr => ∃ j : Nat, Hid (w = wr) ∧ i = .int .i64 (j : Int) ∧ j ≤ P) (fun i _ => n - (intOf i).toNat)
 case atStart => exact ⟨0, Hid.mk rfl, rfl, by omega⟩
 case round =>
  obtain ⟨j, hw, rfl, hj⟩ := hrel
  obtain rfl := hw.out
  clear hw
  by_cases hlt : j < n
  ·obtain ⟨y, hy⟩ : ∃ y, K[j]? = some y := ⟨_, List.getElem?_eq_getElem (by have := HN.out; omega)⟩
   obtain ⟨b, o, rfl, d0, d1⟩ := rowK_at HR.out hy
   have hjI : (j : Int) < (n : Int) := by omega
   by_cases hk : j < P
   ·have hless : Op.bytesLess y.k to = true := by rw [bytesLess_eq]; simpa using HL.out j y hy hk
    clear hy
    go_wp2_with fail
    go_roundw
    case rel => exact ⟨j + 1, by trivial, by go_num, by omega⟩
    case measure => simp [intOf]; omega
   ·obtain rfl : j = P := by omega
    have hless : Op.bytesLess y.k to = false := by rw [bytesLess_eq]; simpa using HA.out y hy
    clear hy
    go_wp2_with fail
    go_ret
    exact ⟨rfl, rfl⟩
  ·obtain rfl : j = P := by omega
   go_wp2_with fail
   go_ret
   exact ⟨rfl, rfl⟩
set_option maxHeartbeats 1000000 in
theorem there53 {a : Option Addr} {n c : Nat} (hb : w.cell? ⟨p, 2, none⟩ = some (.slice a n c)) (hr : ReadsR 2 w (.slice a n c) (CK K)) (to : List UInt8) (hn : n ≤ 1000000) : Calls Tryz.prog 86 #[.pointer (some ⟨p, 0, none⟩), Sv to] w fun e w' => e = .returned (.bool (hasK K to)) ∧ w = w' := by
 have HP := Hid.mk (place67 hb hr to hn)
 obtain ⟨a', c', e, h1, h2⟩ := rowK_form hr
 injection e with e1 e2 e3
 subst e1 e3
 have hPle := pla_le K to
 rw [← e2] at hPle
 by_cases hlt : pla K to < n
 ·obtain ⟨y, hy⟩ : ∃ y, K[pla K to]? = some y := ⟨_, List.getElem?_eq_getElem (by omega)⟩
  obtain ⟨b, o, rfl, d0, d1⟩ := rowK_at hr hy
  have hA : hasK K to = (y.k == to) := by rw [has_is hy, Bool.eq_iff_iff]; simp
  rw [hA]
  have hI : (pla K to : Int) < (n : Int) := by omega
  clear hy e2 h1 hr hA
  generalize pla K to = P at *
  by_cases hk : y.k = to
  ·subst hk
   rw [beq_self_eq_true]
   go_enter Tryz.func86, Tryz.ntmps86
   go_wp2_with fail
   refine HP.out.mono ?_
   rintro e w1 ⟨rfl, rfl⟩
   go_wp2_with fail
   go_ret
   exact ⟨rfl, rfl⟩
  ·have hq : (y.k == to) = false := by simpa using hk
   rw [hq]
   go_enter Tryz.func86, Tryz.ntmps86
   go_wp2_with fail
   refine HP.out.mono ?_
   rintro e w1 ⟨rfl, rfl⟩
   go_wp2_with fail
   go_ret
   exact ⟨rfl, rfl⟩
 ·rw [has_none (List.getElem?_eq_none (by omega))]
  have hI : ((pla K to : Int) < (n : Int)) = False := eq_false (by omega)
  clear e2 h1 hr
  generalize pla K to = P at *
  go_enter Tryz.func86, Tryz.ntmps86
  go_wp2_with fail
  refine HP.out.mono ?_
  rintro e w1 ⟨rfl, rfl⟩
  go_wp2_with fail
  go_ret
  exact ⟨rfl, rfl⟩
set_option maxHeartbeats 1000000 in
theorem serial33 {a : Option Addr} {n c : Nat} (hb : w.cell? ⟨p, 2, none⟩ = some (.slice a n c)) (hr : ReadsR 2 w (.slice a n c) (CK K)) (to : List UInt8) (hn : n ≤ 1000000) : Calls Tryz.prog 50 #[.pointer (some ⟨p, 0, none⟩), Sv to] w fun e w' => e = .returned (Uv (ser K to)) ∧ Kept [] w w' := by
 have HT := Hid.mk (there53 hb hr to hn)
 have HP : Hid (∀ W, Kept [] w W → Calls Tryz.prog 106 #[.pointer (some ⟨p, 0, none⟩), Sv to] W fun e w' => e = .returned (.int .i64 (pla K to : Int)) ∧ w' = W) := fun W k => (place67 (k.cell_eq hb) (hr.kept k (by simp)) to hn).mono fun e w' h => ⟨h.1, h.2.symm⟩
 obtain ⟨a', c', e, h1, h2⟩ := rowK_form hr
 injection e with e1 e2 e3
 subst e1 e3
 cases hh : hasK K to with
 | false =>
  rw [(has_not hh).1]
  rw [hh] at HT
  clear hr hh HP
  go_enter Tryz.func50, Tryz.ntmps50
  go_wp2_with fail
  refine HT.out.mono ?_
  rintro e w1 ⟨rfl, rfl⟩
  go_wp2_with fail
  go_ret
  exact ⟨rfl, Kept.refl [] _⟩
 | true =>
  obtain ⟨s, g1, g2⟩ := has_at hh
  rw [g2]
  rw [hh] at HT
  obtain ⟨b, o, rfl, d0, d1⟩ := rowK_at hr g1
  have hlt := get_lt g1
  rw [← e2] at hlt
  have hI : (pla K to : Int) < (n : Int) := by omega
  have hI0 : (0 : Int) ≤ (pla K to : Int) := by omega
  clear hr hh g1 g2 e2 h1
  generalize pla K to = P at *
  dsimp only at d0 d1
  go_enter Tryz.func50, Tryz.ntmps50
  go_wp2_with fail
  refine HT.out.mono ?_
  rintro e w1 ⟨rfl, rfl⟩
  go_wp2_with fail
  go_quiet ((go_at_call 106; exact Calls.quiet_of_same (HP.out _ ((Kept.refl [] _).drewN _))))
  go_wp2_with fail
  go_ret
  exact ⟨rfl, (Kept.refl [] _).drewN _⟩
end
theorem flat_set {k : Nat} : ∀ {rs : List (List Value)} (h : Wide k rs) {j : Nat} {r : List Value}, rs[j]? = some r → ∀ (i : Nat) (x : Value), i < k → (rs.set j (r.set i x)).flatten = rs.flatten.set (j * k + i) x
 | [], h, j, r, hj, i, x, hi => by simp at hj
 | s :: rs, h, 0, r, hj, i, x, hi => by
  simp at hj
  subst hj
  have hl := (h s (by simp)).1
  rw [List.set_cons_zero, List.flatten_cons, List.flatten_cons, Nat.zero_mul, Nat.zero_add, List.set_append_left _ _ (by omega)]
 | s :: rs, h, j + 1, r, hj, i, x, hi => by
  have hl := (h s (by simp)).1
  have ih := flat_set (rs := rs) (fun q hq => h q (by simp [hq])) (j := j) (by simpa using hj) i x hi
  rw [List.set_cons_succ, List.flatten_cons, List.flatten_cons, ih, List.set_append_right _ _ (by rw [hl, Nat.add_mul]; omega), hl]
  congr 2
  rw [Nat.add_mul]
  omega
theorem OwnsR.set {e : TypeId} {k : Nat} {w : World} {b o n c : Nat} {rs : List (List Value)} (h : OwnsR e k w (.slice (some ⟨b, o, none⟩) n c) rs) (hw : Wide k rs) {j : Nat} {r : List Value} (hj : rs[j]? = some r) {i : Nat} (hi : i < k) (x : Value) :
  o = 0 ∧ w.frozen? ⟨b, j * k + i, none⟩ = false ∧ OwnsR e k (w.setCell ⟨b, j * k + i, none⟩ x) (.slice (some ⟨b, o, none⟩) n c) (rs.set j (r.set i x)) ∧ Kept [b] w (w.setCell ⟨b, j * k + i, none⟩ x) := by
 have hlt := get_lt hj
 rcases h.2 with ⟨h0, -⟩ | ⟨g, cap, cur, e1, hb, hg, h1, h2, h3, h4⟩
 ·cases h0
 ·injection e1 with e1 e2 e3
  injection e1 with e1
  injection e1 with e1 e4 _
  subst e1 e2 e3 e4
  refine ⟨rfl, by simp [World.frozen?, hg], ⟨?_, .inr ⟨b, c, cur.setIfInBounds (j * k + i) x, by rw [List.length_set], hb, set_at hg, by rw [List.length_set]; exact h1, h2, by rw [Array.size_setIfInBounds]; exact h3, ?_⟩⟩, (Kept.refl [b] w).setCell (p := ⟨b, j * k + i, none⟩) (.inl (by simp)) x⟩
  ·rw [flat_set hw hj i x hi, List.length_set, List.length_set]; exact h.1
  ·rw [flat_set hw hj i x hi, Array.toList_setIfInBounds, List.length_set, ← h4]
   have hlt2 : j * k + i < rs.length * k := by
    have : (j + 1) * k ≤ rs.length * k := Nat.mul_le_mul_right k hlt
    rw [Nat.add_mul] at this
    omega
   rw [List.take_set]
section
variable {w0 w w' : World} {p pf : Nat} {v u : Value} {own : List UInt8} {K : List La} {qs ms : List Yq}
theorem run_cutH {T e : TypeId} {k b : Nat} {z : Value} (R : RowT T e k b z) (W : World) (a : Option Addr) (n c j : Nat) (hj : j ≤ c) : (Instr.slice T (.slice a n c) none (some (.int .i64 (j : Int))) none).run Tryz.prog W = .ok (.slice (cutA a c 0 k) j c) W := by
 rw [run_slice_h W T a n c (by rw [R.elem]; exact R.under) .i64 j (by omega) (by omega), R.elem, R.size]
 simp [Result.andThen, sliced, cutA]
theorem run_cutL {T e : TypeId} {k b : Nat} {z : Value} (R : RowT T e k b z) (W : World) (a : Option Addr) (n c i : Nat) (hi : i ≤ n) : (Instr.slice T (.slice a n c) (some (.int .i64 (i : Int))) none none).run Tryz.prog W = .ok (.slice (cutA a c i k) (n - i) (c - i)) W := by
 rw [run_slice_l W T a n c (by rw [R.elem]; exact R.under) .i64 i (by omega) (by omega), R.elem, R.size]
 simp [Result.andThen, sliced, cutA]
theorem Kept.two {S T : List Nat} {a b c : World} (h : Kept [] a b) (k : Kept T b c) (hT : ∀ x ∈ T, a.heap.size ≤ x) : Kept S a c := (h.trans k (fun x hx => .inr (hT x hx))).mono (by simp)
set_option maxHeartbeats 1000000 in
theorem set65_has (hF : IsF w0 w p v u own K ms) (hK : K.length ≤ 64) (to : List UInt8) (s : Nat) (hh : hasK K to = true) : Calls Tryz.prog 87 #[.pointer (some ⟨p, 0, none⟩), Sv to, Uv s] w fun e w' => e = .returned (.tuple #[]) ∧ ∃ u', IsF w0 w' p v u' own (setK K to s) ms ∧ Kept (footF p v u) w w' := by
 obtain ⟨a, c, rfl, hc1, hc2⟩ := rowK_form hF.krow
 obtain ⟨x0, x1, x2⟩ := cells3 hF.box
 have HP := Hid.mk (place67 x2 hF.krow to (by omega))
 have HT := Hid.mk (there53 x2 hF.krow to (by omega))
 rw [hh] at HT
 obtain ⟨t, h1, h2⟩ := has_at hh
 obtain ⟨b, o, rfl, d0, d1⟩ := rowK_at hF.krow h1
 have hlt := get_lt h1
 obtain ⟨ho, f1, hO, kO⟩ := hF.ks.set (CK_wide K) (j := pla K to) (r := [Sv to, Uv t]) (by rw [CK, List.getElem?_map, h1]; rfl) (i := 1) (by omega) (Uv s)
 subst ho
 rw [Nat.zero_add] at d0 d1
 have hset : (CK K).set (pla K to) ([Sv to, Uv t].set 1 (Uv s)) = CK (setK K to s) := by
  rw [setK_has s hh, CK, CK, List.map_set]; rfl
 rw [hset] at hO
 have hub : b ≠ p := fun e => by
  subst e
  exact ownsR_ne hF.ks hF.box (by decide) rfl
 have HR : Hid (∃ u', IsF w0 (w.setCell ⟨b, pla K to * 2 + 1, none⟩ (Uv s)) p v u' own (setK K to s) ms ∧ Kept (footF p v (.slice (some ⟨b, 0, none⟩) K.length c)) w (w.setCell ⟨b, pla K to * 2 + 1, none⟩ (Uv s))) := by
  have hkb : Kept (footF p v (.slice (some ⟨b, 0, none⟩) K.length c)) w (w.setCell ⟨b, pla K to * 2 + 1, none⟩ (Uv s)) := kO.mono (fun x hx => .inl (by simp at hx; subst hx; exact mem_footF.2 (.inr (.inr rfl))))
  refine ⟨_, ⟨kO.keeps hF.box (by simp; exact fun e => hub e.symm), hF.ys.kept kO (fun g hg => ?_), hO, fun g hg => hF.fru g hg, hF.fr⟩, hkb⟩
  simp at hg
  subst hg
  exact ⟨fun hg => own_apart hF.ys.own hF.ks (by decide) hg rfl, fun y hy hg => own_apart (hF.ys.args y hy) hF.ks (by decide) hg rfl⟩
 have hI : (pla K to : Int) < (K.length : Int) := by omega
 have hI0 : (0 : Int) ≤ (pla K to : Int) := by omega
 clear hF h1 h2 hO kO hset hh
 generalize pla K to = P at *
 generalize setK K to s = K' at *
 generalize K.length = n at *
 go_enter Tryz.func87, Tryz.ntmps87
 go_wp2_with fail
 refine HP.out.mono ?_
 rintro e w1 ⟨rfl, rfl⟩
 go_wp2_with fail
 refine HT.out.mono ?_
 rintro e w1 ⟨rfl, rfl⟩
 go_wp2_with fail
 refine bodyPost_ret (results_none rfl _ _ _) rfl ?_
 exact ⟨rfl, HR.out⟩
set_option maxHeartbeats 1000000 in
theorem set65_new (hF : IsF w0 w p v u own K ms) (hK : K.length ≤ 64) (hs0 : w0.heap.size ≤ w.heap.size) (to : List UInt8) (s : Nat) (hh : hasK K to = false) : Calls Tryz.prog 87 #[.pointer (some ⟨p, 0, none⟩), Sv to, Uv s] w fun e w' => e = .returned (.tuple #[]) ∧ ∃ u', IsF w0 w' p v u' own (setK K to s) ms ∧ Kept (footF p v u) w w' := by
 obtain ⟨a, c, rfl, hc1, hc2⟩ := rowK_form hF.krow
 obtain ⟨x0, x1, x2⟩ := cells3 hF.box
 have HP := Hid.mk (place67 x2 hF.krow to (by omega))
 have HT := Hid.mk (there53 x2 hF.krow to (by omega))
 rw [hh] at HT
 have hPle := pla_le K to
 have hset := setK_new s hh
 have hpl := hF.lt
 generalize pla K to = P at *
 -- the first append
 have hcut1 := run_cutH rt72 w a K.length c P (by omega)
 have hr1 := ReadsR.cut (k := 2) (i := 0) (j := P) (m := c) (by rw [CK_length]) hF.krow (by omega) hPle (by omega) (Nat.le_refl _)
 rw [List.drop_zero, Nat.sub_zero, Nat.sub_zero] at hr1
 obtain ⟨a1, c1, w1, hrun1, hO1, hg1, hN1⟩ := run_appendR rt72 w 122 (.slice none 0 0) [] (OwnsR.nil 198 2 w) _ ((CK K).take P) (fun r hr => CK_wide K r (List.mem_of_mem_take hr)) hr1 (by rw [List.length_take, CK_length]; simp; omega)
 rw [List.nil_append, List.length_nil, Nat.zero_add, List.length_take, CK_length, Nat.min_eq_left hPle] at *
 have k1 : Kept [] w w1 := (Kept.refl [] w).grown hg1 (by simp [Value.ownBlock])
 have hf1 : Fresh w (.slice a1 P c1) := fun g hg => by rcases hN1 g hg with h | h; simp [Value.ownBlock] at h; exact h
 -- the second
 obtain ⟨a2, c2, w2, hrun2, hO2, k2, hN2⟩ := append_rowR rt72 hO1 [Sv to, Uv s] rfl (fun x hx => by simp at hx; rcases hx with rfl | rfl <;> rfl) (by rw [List.length_take, CK_length]; omega) 198 (0, 0) 122
 rw [List.length_take, CK_length, Nat.min_eq_left hPle] at *
 have hf2 : Fresh w (.slice a2 (P + 1) c2) := fun g hg => by rcases hN2 g hg with h | h; exact hf1 g h; have := k1.size; omega
 have k02 : Kept [] w w2 := k1.two k2 (fun x hx => by rw [Option.mem_toList] at hx; exact hf1 x hx)
 -- the third
 have hcut2 := run_cutL rt72 w2 a K.length c P hPle
 have hkr2 := hF.krow.kept k02 (by simp)
 have hr2 := ReadsR.cut (k := 2) (i := P) (j := K.length) (m := c) (by rw [CK_length]) hkr2 hPle (Nat.le_refl _) (by omega) (Nat.le_refl _)
 rw [List.take_of_length_le (by rw [CK_length]; exact Nat.le_refl _)] at hr2
 obtain ⟨a3, c3, w3, hrun3, hO3, hg3, hN3⟩ := run_appendR rt72 w2 122 _ _ hO2 _ ((CK K).drop P) (fun r hr => CK_wide K r (List.mem_of_mem_drop hr)) hr2 (by rw [List.length_append, List.length_take, List.length_drop, CK_length, List.length_singleton]; omega)
 rw [List.length_append, List.length_take, CK_length, Nat.min_eq_left hPle, List.length_singleton, List.length_drop, CK_length] at *
 have hf3 : Fresh w (.slice a3 (P + 1 + (K.length - P)) c3) := fun g hg => by rcases hN3 g hg with h | h; exact hf2 g h; have := k02.size; omega
 have k03 : Kept [] w w3 := (k02.grown hg3 (fun x hx => .inr (hf2 x hx)))
 have hF3 := hF.kept0 k03
 have hrows : (CK K).take P ++ [[Sv to, Uv s]] ++ (CK K).drop P = CK (setK K to s) := by
  rw [hset]
  simp [CK, cellsK]
 rw [hrows] at hO3
 obtain ⟨y0, y1, y2⟩ := cells3 (k1.keeps hF.box (by simp))
 obtain ⟨z0, z1, z2⟩ := cells3 (k02.keeps hF.box (by simp))
 obtain ⟨t0, t1, t2⟩ := cells3 hF3.box
 obtain ⟨f0, f1, f2⟩ := free3 hF3.box
 have kp := (Kept.refl [p] w3).setCell (p := ⟨p, 2, none⟩) (.inl (by simp)) (.slice a3 (P + 1 + (K.length - P)) c3)
 have HR : Hid (∃ u', IsF w0 (w3.setCell ⟨p, 2, none⟩ (.slice a3 (P + 1 + (K.length - P)) c3)) p v u' own (setK K to s) ms ∧ Kept (footF p v (.slice a K.length c)) w (w3.setCell ⟨p, 2, none⟩ (.slice a3 (P + 1 + (K.length - P)) c3))) := by
  refine ⟨_, ⟨set3_2 hF3.box, hF3.ys.kept kp (fun g hg => ?_), hO3.kept kp (fun g hg hm => ?_), fun g hg => by have := hf3 g hg; omega, hF.fr⟩, (k03.mono (by simp)).trans kp (fun x hx => .inl (by simp at hx; subst hx; exact mem_footF.2 (.inl rfl)))⟩
  ·simp at hg
   subst hg
   exact ⟨ownsR_ne hF3.ys.own hF3.box (by decide), fun y hy => ownsJ_ne (hF3.ys.args y hy) hF3.box (by decide)⟩
  ·simp at hm
   subst hm
   exact ownsR_ne hO3 hF3.box (by decide) hg
 have hI : (P : Int) ≤ (c : Int) := by omega
 have hI0 : (0 : Int) ≤ (P : Int) := by omega
 have hI1 : (P : Int) ≤ (K.length : Int) := by omega
 clear hF hF3 kp hO3 hrows hf3 k03 hg3 hN3 hr2 hkr2 hO2 k2 hN2 hf2 k02 hO1 hg1 hN1 k1 hf1 hr1 hset hh
 generalize setK K to s = K' at *
 go_enter Tryz.func87, Tryz.ntmps87
 go_wp2_with fail
 refine HP.out.mono ?_
 rintro e w5 ⟨rfl, rfl⟩
 go_wp2_with fail
 refine HT.out.mono ?_
 rintro e w5 ⟨rfl, rfl⟩
 go_wp2_with (first | (at_builtin; refine wpList_append_run 122 122 (.tmp 22) (.tmp 28) rfl (by rfl) _ _ rfl rfl _ _ hrun1 ?_) | (at_builtin; refine wpList_append_run 122 122 (.tmp 30) (.tmp 34) rfl (by rfl) _ _ rfl rfl _ _ hrun2 ?_) | (at_builtin; refine wpList_append_run 122 122 (.tmp 37) (.tmp 43) rfl (by rfl) _ _ rfl rfl _ _ hrun3 ?_))
 go_end0
 exact ⟨rfl, HR.out⟩
end
theorem rt71 : RowT 121 131 5 72 (.agg #[.string ⟨#[]⟩, .string ⟨#[]⟩, .int .u64 0, .int .i64 0, .slice none 0 0]) := ⟨Tryz.underlying121, by kernel_rfl, rfl, by omega, by omega⟩
theorem OwnY.app {w0 w : World} {v : Value} {qs : List Yq} (h : OwnY 131 w0 w v qs) (y : Yq) (hq : OwnsJ w y.q.sl y.q.x.args) (hf : Fresh w0 y.q.sl) (hs : w0.heap.size ≤ w.heap.size) (hn : qs.length ≤ 900000) : ∃ ad c w', (Builtin.append_ #[121, 121] 121 #[v, .slice (some ⟨w.heap.size, 0, none⟩) 1 1]).run Tryz.prog (w.alloc (.cells #[Sv y.to, Sv y.q.x.fr, .int .u64 (y.q.x.ser : Int), .int .i64 y.q.x.kind, y.q.sl] 131)) = .ok (.slice ad (qs.length + 1) c) w' ∧ OwnY 131 w0 w' (.slice ad (qs.length + 1) c) (qs ++ [y]) ∧ Kept v.ownBlock.toList w w' := by
 obtain ⟨ad, c, w', hrun, ho, k, hN⟩ := append_rowR rt71 h.own (cellsY y) rfl (fun u hu => by simp [cellsY] at hu; rcases hu with rfl | rfl | rfl | rfl | rfl <;> rfl) (by rw [CY_length]; exact hn) 131 (0, 0) 121
 rw [CY_length] at *
 refine ⟨ad, c, w', hrun, ⟨?_, fun z hz => ?_, fun g hg => ?_, fun z hz => ?_⟩, k⟩
 ·rw [CY_append]; exact ho
 ·have hz' : OwnsJ w z.q.sl z.q.x.args := by
   rcases List.mem_append.1 hz with hz | hz
   ·exact h.args z hz
   ·simp at hz; subst hz; exact hq
  exact hz'.kept k (fun g hg hm => by rw [Option.mem_toList] at hm; exact own_apart hz' h.own (by decide) hg hm)
 ·rcases hN g hg with h1 | h1
  ·exact h.fr g h1
  ·omega
 ·rcases List.mem_append.1 hz with hz | hz
  ·exact h.fra z hz
  ·simp at hz; subst hz; exact hf
theorem ownR_form {e : TypeId} {k : Nat} {w : World} {v : Value} {rs : List (List Value)} (h : OwnsR e k w v rs) : (v = .slice none 0 0 ∧ rs.length = 0) ∨ ∃ g cap cur, v = .slice (some ⟨g, 0, none⟩) rs.length cap ∧ w.heap[g]? = some (.cells cur e (0, 0)) := by
 rcases h.2 with ⟨rfl, h0⟩ | ⟨g1, cap, cur, rfl, _, hb, _⟩
 ·exact .inl ⟨rfl, h0⟩
 ·exact .inr ⟨g1, cap, cur, rfl, hb⟩
section
variable {w0 w w' : World} {p pf : Nat} {v u : Value} {own : List UInt8} {K : List La} {qs ms : List Yq}
theorem set65 (hF : IsF w0 w p v u own K ms) (hK : K.length ≤ 64) (hs0 : w0.heap.size ≤ w.heap.size) (to : List UInt8) (s : Nat) : Calls Tryz.prog 87 #[.pointer (some ⟨p, 0, none⟩), Sv to, Uv s] w fun e w' => e = .returned (.tuple #[]) ∧ ∃ u', IsF w0 w' p v u' own (setK K to s) ms ∧ Kept (footF p v u) w w' := by
 cases h : hasK K to with
 | true => exact set65_has hF hK to s h
 | false => exact set65_new hF hK hs0 to s h
theorem send29_arg (to : List UInt8) (kind : Int) (a : Option Addr) (n c : Nat) (pp : Option Addr) (hl : to.length ≤ 281474976710656) (hn : n ≤ 1000000) (h : isKey to = false ∨ 4 < n) :
  Calls Tryz.prog 27 #[.pointer pp, Sv to, .int .i64 kind, .slice a n c] w fun e w' => e = .returned (.tuple #[Uv 0, .int .i64 1]) ∧ w = w' := by
 have HK := Hid.mk (key28 (w := w) to hl)
 cases hk : isKey to with
 | false =>
  rw [hk] at HK
  clear h hk
  go_enter Tryz.func27, Tryz.ntmps27
  go_wp2_with fail
  refine HK.out.mono ?_
  rintro e w1 ⟨rfl, rfl⟩
  go_wp2_with fail
  go_ret2
  exact ⟨rfl, rfl⟩
 | true =>
  rw [hk] at HK h
  have g4 : (4 : Int) < (n : Int) := by rcases h with h | h; cases h; omega
  clear h hk
  go_enter Tryz.func27, Tryz.ntmps27
  go_wp2_with fail
  refine HK.out.mono ?_
  rintro e w1 ⟨rfl, rfl⟩
  go_wp2_with fail
  go_ret2
  exact ⟨rfl, rfl⟩
set_option maxHeartbeats 1000000 in
theorem send29_full (hF : IsF w0 w p v u own K ms) (hK : K.length ≤ 64) (hm : ms.length ≤ 32) (to : List UInt8) (kind : Int) (a : Option Addr) (n c : Nat) (hk : isKey to = true) (hn : n ≤ 4) (h : ms.length = 32 ∨ (hasK K to = false ∧ K.length = 64)) :
  Calls Tryz.prog 27 #[.pointer (some ⟨p, 0, none⟩), Sv to, .int .i64 kind, .slice a n c] w fun e w' => e = .returned (.tuple #[Uv 0, .int .i64 6]) ∧ w = w' := by
 have hkl := (isKey_iff to).1 hk
 have HK := Hid.mk (key28 (w := w) to (by omega))
 rw [hk] at HK
 obtain ⟨au, cu, rfl, hc1, hc2⟩ := rowK_form hF.krow
 obtain ⟨av, cv, rfl, hv1, hv2⟩ := rowY_form hF.ys.row
 obtain ⟨x0, x1, x2⟩ := cells3 hF.box
 have HT := Hid.mk (there53 x2 hF.krow to (by omega))
 have g4 : ((4 : Int) < (n : Int)) = False := eq_false (by omega)
 by_cases h32 : ms.length = 32
 ·have g32 : (32 : Int) ≤ (ms.length : Int) := by omega
  clear h hF h32 hk hkl
  go_enter Tryz.func27, Tryz.ntmps27
  go_wp2_with fail
  refine HK.out.mono ?_
  rintro e w1 ⟨rfl, rfl⟩
  go_wp2_with fail
  go_ret2
  exact ⟨rfl, rfl⟩
 ·have h2 : hasK K to = false ∧ K.length = 64 := by rcases h with h | h; exact absurd h h32; exact h
  rw [h2.1] at HT
  have g64 : (64 : Int) ≤ (K.length : Int) := by omega
  have g32 : ((32 : Int) ≤ (ms.length : Int)) = False := eq_false (by omega)
  clear h hF h32 hk hkl h2
  go_enter Tryz.func27, Tryz.ntmps27
  go_wp2_with fail
  refine HK.out.mono ?_
  rintro e w1 ⟨rfl, rfl⟩
  go_wp2_with fail
  refine HT.out.mono ?_
  rintro e w1 ⟨rfl, rfl⟩
  go_wp2_with fail
  go_ret2
  exact ⟨rfl, rfl⟩
set_option maxHeartbeats 2000000 in
theorem send29_ok (hF : IsF w0 w p v u own K ms) (hK : K.length ≤ 64) (hs0 : w0.heap.size ≤ w.heap.size) (to : List UInt8) (x : Lt) (a : Option Addr) (c : Nat) (hk : isKey to = true) (hn : x.args.length ≤ 4) (hx : ∀ W, Kept (footF p v u) w W → ReadsJ W (.slice a x.args.length c) x.args) (hfr : x.fr = own) (hser : x.ser = ser K to + 1) (h32 : ms.length < 32) (h64 : hasK K to = true ∨ K.length < 64) (hs : ser K to + 1 < 18446744073709551616) :
  Calls Tryz.prog 27 #[.pointer (some ⟨p, 0, none⟩), Sv to, .int .i64 x.kind, .slice a x.args.length c] w fun e w' => e = .returned (.tuple #[Uv (ser K to + 1), .int .i64 0]) ∧ ∃ v' u' a' c', IsF w0 w' p v' u' own (setK K to (ser K to + 1)) (ms ++ [⟨to, x, a', c'⟩]) ∧ Kept (footF p v u) w w' := by
 have hkl := (isKey_iff to).1 hk
 have HK := Hid.mk (key28 (w := w) to (by omega))
 rw [hk] at HK
 have HSET : Hid (∀ W, Kept [] w W → Calls Tryz.prog 87 #[.pointer (some ⟨p, 0, none⟩), Sv to, Uv x.ser] W fun e w' => e = .returned (.tuple #[]) ∧ ∃ u', IsF w0 w' p v u' own (setK K to x.ser) ms ∧ Kept (footF p v u) W w') := fun W k => set65 (hF.kept0 k) hK (by have := k.size; omega) to x.ser
 obtain ⟨au, cu, rfl, hc1, hc2⟩ := rowK_form hF.krow
 obtain ⟨av, cv, rfl, hv1, hv2⟩ := rowY_form hF.ys.row
 obtain ⟨x0, x1, x2⟩ := cells3 hF.box
 have HT := Hid.mk (there53 x2 hF.krow to (by omega))
 have HSR := Hid.mk (serial33 x2 hF.krow to (by omega))
 have g4 : ((4 : Int) < (x.args.length : Int)) = False := eq_false (by omega)
 have g32 : ((32 : Int) ≤ (ms.length : Int)) = False := eq_false (by omega)
 have HXP : Hid (∀ W, Kept (footF p (.slice av ms.length cv) (.slice au K.length cu)) w W → ReadsJ W (.slice a x.args.length c) x.args) := fun W k => hx W k
 have HSER := Hid.mk hser
 have HF := Hid.mk hF
 have hol : True := trivial
 have hSS : Hid (ser K to < 18446744073709551615) := Hid.mk (by omega)
 have g64 : hasK K to = false → ((64 : Int) ≤ (K.length : Int)) = False := fun h => eq_false (by rcases h64 with h' | h'; rw [h] at h'; cases h'; omega)
 rw [← hser]
 have hK2 : Hid (∃ K', setK K to x.ser = K') := ⟨_, rfl⟩
 obtain ⟨K', hK'⟩ := hK2.out
 rw [hK'] at HSET ⊢
 rw [← hfr] at HSET HF ⊢
 rw [← hfr] at x0
 have hsI : (ser K to : Int) + 1 = (x.ser : Int) := by rw [hser]; rfl
 have hs1 : (ser K to : Int) < 18446744073709551615 := by have := hSS.out; omega
 have g64 : Hid (hasK K to = false → ((64 : Int) ≤ (K.length : Int)) = False) := fun h => eq_false (by rcases h64 with h' | h'; rw [h] at h'; cases h'; omega)
 have HF0 := Hid.mk HF.out
 clear hF hk hkl hK' hK2 hx hfr hser h64 hs HSER hSS HF
 generalize ser K to = S at *
 generalize hasK K to = A at *
 have gg : A = true ∨ (A = false ∧ ((64 : Int) ≤ (K.length : Int)) = False) := by cases A; exact .inr ⟨rfl, g64.out rfl⟩; exact .inl rfl
 clear g64
 go_enter Tryz.func27, Tryz.ntmps27
 rcases gg with rfl | ⟨rfl, g64⟩
 all_goals
  go_wp2_with fail
  refine HK.out.mono ?_
  rintro e w1 ⟨rfl, rfl⟩
  go_wp2_with fail
  refine HT.out.mono ?_
  rintro e w1 ⟨rfl, rfl⟩
  go_wp2_with fail
  refine HSR.out.mono ?_
  rintro e w1 ⟨rfl, k1⟩
  go_wp2_with fail
  refine (HSET.out _ k1).mono ?_
  rintro e w3 ⟨rfl, u3, hF3, k3⟩
  have k03 : Kept (footF p (.slice av ms.length cv) (.slice au K.length cu)) w w3 := (k1.mono (by simp)).trans k3 (fun x hx => .inl hx)
  have kd := k03.drew
  have hFd := hF3.kept0 (Kept.refl [] w3).drew
  obtain ⟨y0, y1, y2⟩ := cells3 hFd.box
  have HC := Hid.mk (copy25 x a c (HXP.out _ kd) (by omega))
  have HFD := Hid.mk hFd
  have HKD := Hid.mk kd
  clear hFd hF3 k3 k03 kd x0 x1 x2
  go_wp2_with fail
  go_region_law (first | (refine step_append_run 121 (.tmp 51) (.tmp 63) (by rfl) (by rfl) _ _ (by rfl) (by rfl) hrun ?_) | ((try go_simp); go_at_call 79; refine HC.out.mono ?_; rintro e w5 ⟨a5, c5, rfl, hO5, k5, hf5⟩; obtain ⟨a6, c6, w6, hrun, hO6, k6⟩ := (HFD.out.ys.kept0 k5).app ⟨to, x, a5, c5⟩ hO5 (fun g hg => by have := hf5 g hg; have := HKD.out.size; omega) (by have := k5.size; have := HKD.out.size; omega) (by omega); have hF5 := HFD.out.kept0 k5; have h6 := k6.keeps hF5.box (by rw [Option.mem_toList]; exact ownsR_ne hF5.ys.own hF5.box (by decide)); obtain ⟨q0, q1, q2⟩ := cells3 h6; obtain ⟨qf0, qf1, qf2⟩ := free3 h6; have q5 := (cells3 hF5.box).2.1; have q6 := ((Kept.refl [] w5).alloc (.cells #[Sv to, Sv x.fr, .int .u64 (x.ser : Int), .int .i64 x.kind, .slice a5 x.args.length c5] 131)).cell_eq q5; clear hF5))
  all_goals
   have HR : Hid (IsF w0 (w6.setCell ⟨p, 1, none⟩ (.slice a6 (ms.length + 1) c6)) p (.slice a6 (ms.length + 1) c6) u3 x.fr K' (ms ++ [⟨to, x, a5, c5⟩]) ∧ Kept (footF p (.slice av ms.length cv) (.slice au K.length cu)) w (w6.setCell ⟨p, 1, none⟩ (.slice a6 (ms.length + 1) c6))) := by
    have kp := (Kept.refl [p] w6).setCell (p := ⟨p, 1, none⟩) (.inl (by simp)) (.slice a6 (ms.length + 1) c6)
    have hks := (HFD.out.ks.kept k5 (by simp)).kept k6 (fun g hg hm => by rw [Option.mem_toList] at hm; exact own_apart (HFD.out.kept0 k5).ks (HFD.out.kept0 k5).ys.own (by decide) hg hm)
    refine ⟨⟨set3_1 h6, hO6.kept kp (fun g hg => ?_), hks.kept kp (fun g hg hm => ?_), HFD.out.fru, HFD.out.fr⟩, ?_⟩
    ·simp at hg
     subst hg
     exact ⟨ownsR_ne hO6.own h6 (by decide), fun q hq => ownsJ_ne (hO6.args q hq) h6 (by decide)⟩
    ·simp at hm
     subst hm
     exact ownsR_ne hks h6 (by decide) hg
    ·exact ((HKD.out.trans k5 (by simp)).trans k6 (fun y hy => .inl (mem_footF.2 (.inr (.inl (by rw [Option.mem_toList] at hy; exact hy)))))).setCell (p := ⟨p, 1, none⟩) (.inl (mem_footF.2 (.inl rfl))) _
   clear hO6 k6 h6 hO5 k5 hf5 q0 q1 q2 qf0 qf1 qf2 q5 q6 hrun
   go_wp2_with fail
   go_ret2
   exact ⟨rfl, _, _, _, _, HR.out⟩
end
section
variable {w0 w w' : World} {p pf : Nat} {v u : Value} {own : List UInt8} {K : List La} {qs ms : List Yq}
def CT (l : List (List UInt8)) : List (List Value) := l.map fun s => [Sv s]
theorem CT_length (l : List (List UInt8)) : (CT l).length = l.length := by simp [CT]
theorem rt103 : RowT 22 9 1 16 (.string ⟨#[]⟩) := ⟨Tryz.underlying22, by kernel_rfl, rfl, by omega, by omega⟩
def keysL (K : List La) : List (List UInt8) := K.map (·.k)
set_option maxHeartbeats 1000000 in
theorem keys57 {a : Option Addr} {n c : Nat} (hb : w.cell? ⟨p, 2, none⟩ = some (.slice a n c)) (hr : ReadsR 2 w (.slice a n c) (CK K)) (hn : n ≤ 1000) : Calls Tryz.prog 48 #[.pointer (some ⟨p, 0, none⟩)] w fun e w' => ∃ v, e = .returned v ∧ OwnsR 9 1 w' v (CT (keysL K)) ∧ Kept [] w w' := by
 obtain ⟨a', c', e, h1, h2⟩ := rowK_form hr
 injection e with e1 e2 e3
 subst e1 e3
 have HN := Hid.mk e2
 have HR := Hid.mk hr
 have HB := Hid.mk hb
 clear hr e2 h1
 go_enter Tryz.func48, Tryz.ntmps48
 go_wp2_with fail
 go_loopw [3, 10] (fun x i wr => ∃ j : Nat, i = .int .i64 (j : Int) ∧ j ≤ n ∧ Hid (∃ K1 K2, K = K1 ++ K2 ∧ K1.length = j ∧ OwnsR 9 1 wr x (CT (keysL K1)) ∧ Fresh w x) ∧ Hid (Kept [] w wr)) (fun x i _ => n - (intOf i).toNat)
 case atStart => exact ⟨0, rfl, by omega, Hid.mk ⟨[], K, rfl, rfl, OwnsR.nil 9 1 _, fresh_nil _ _⟩, Hid.mk (Kept.refl [] _)⟩
 case round =>
  obtain ⟨j, rfl, hj, hO, hk⟩ := hrel
  obtain ⟨K1, K2, hKK, hK1, hO1, hf1⟩ := hO.out
  have k1 := hk.out
  by_cases hlt : j < n
  ·obtain ⟨y, t, rfl⟩ : ∃ y t, K2 = y :: t := by
    cases K2 with
    | nil => have := HN.out; rw [hKK] at this; simp at this; omega
    | cons y t => exact ⟨y, t, rfl⟩
   have hy : K[j]? = some y := by rw [hKK, ← hK1]; simp
   obtain ⟨b, o, rfl, d0, d1⟩ := rowK_at (HR.out.kept k1 (by simp)) hy
   have hb' := k1.cell_eq HB.out
   obtain ⟨a2, c2, w2, hrun, hO2, k2, hN2⟩ := append_rowR rt103 hO1 [Sv y.k] rfl (fun x hx => by simp at hx; subst hx; rfl) (by rw [CT_length, keysL, List.length_map]; omega) 9 (0, 0) 22
   have hL : (CT (keysL K1)).length = j := by rw [CT_length, keysL, List.length_map]; exact hK1
   obtain ⟨ax, nx, cx, rfl⟩ : ∃ ax nx cx, u3 = .slice ax nx cx := by
    rcases ownR_form hO1 with ⟨rfl, -⟩ | ⟨g, cap, cur, rfl, -⟩
    ·exact ⟨_, _, _, rfl⟩
    ·exact ⟨_, _, _, rfl⟩
   have HO2 : Hid (∃ K1 K2, K = K1 ++ K2 ∧ K1.length = j + 1 ∧ OwnsR 9 1 w2 (.slice a2 ((CT (keysL K1)).length) c2) (CT (keysL K1)) ∧ Fresh w (.slice a2 ((CT (keysL K1)).length) c2)) := by
    refine ⟨K1 ++ [y], t, by rw [hKK]; simp, by simp [hK1], ?_, ?_⟩
    ·have e : CT (keysL (K1 ++ [y])) = CT (keysL K1) ++ [[Sv y.k]] := by simp [CT, keysL]
     rw [e, List.length_append]
     exact hO2
    ·have e : (CT (keysL (K1 ++ [y]))).length = (CT (keysL K1)).length + 1 := by simp [CT, keysL]
     rw [e]
     intro g hg
     rcases hN2 g hg with h | h
     ·exact hf1 g h
     ·have := k1.size; omega
   have HK2 : Hid (Kept [] w w2) := (k1.trans k2 (fun x hx => .inr (hf1 x (by rw [Option.mem_toList] at hx; exact hx))))
   have hjI : (j : Int) < (n : Int) := by omega
   rw [hL] at hrun
   have HL1 : Hid (∀ K1 K2 : List La, K = K1 ++ K2 → K1.length = j + 1 → (CT (keysL K1)).length = j + 1) := fun K1 K2 _ h => by rw [CT_length, keysL, List.length_map]; exact h
   clear hO hk hO1 hf1 k1 hO2 k2 hN2 hKK hK1 hL hy
   go_wp2_with (at_builtin; refine wpList_append_run 22 22 _ _ rfl (by rfl) _ _ rfl rfl _ _ hrun ?_)
   go_roundw
   case rel =>
    refine ⟨j + 1, by go_num, by omega, Hid.mk ?_, HK2⟩
    obtain ⟨K1, K2, h1, h2, h3, h4⟩ := HO2.out
    have := HL1.out K1 K2 h1 h2
    rw [this] at h3 h4
    exact ⟨K1, K2, h1, h2, h3, h4⟩
   case measure => simp [intOf]; omega
  ·have hn0 : K2 = [] := by
    cases K2 with
    | nil => rfl
    | cons y t => have := HN.out; rw [hKK] at this; simp at this; omega
   subst hn0
   have HO3 : Hid (OwnsR 9 1 wr u3 (CT (keysL K))) := by rw [hKK, List.append_nil]; exact hO1
   clear hO hO1 hf1 hKK k1
   go_wp2_with fail
   go_ret
   exact ⟨_, rfl, HO3.out, hk.out⟩
end
section
variable {w0 w w' : World} {p pf : Nat} {v u : Value} {own : List UInt8} {K : List La} {qs ms : List Yq}
theorem ot_eq {a b : Yq} (h : ot a = ot b) : a.to = b.to ∧ a.q.x = b.q.x := by simpa [ot] using h
theorem ot_at {l1 l2 : List Yq} (h : l1.map ot = l2.map ot) {j : Nat} {a : Yq} (ha : l1[j]? = some a) : ∃ b, l2[j]? = some b ∧ a.to = b.to ∧ a.q.x = b.q.x := by
 have := congrArg (·[j]?) h
 simp only [List.getElem?_map, ha, Option.map_some] at this
 obtain ⟨b, hb, e⟩ := Option.map_eq_some_iff.1 this.symm
 exact ⟨b, hb, ot_eq e.symm⟩
theorem rowT_at {a : Option Addr} {n c : Nat} {l : List (List UInt8)} (h : ReadsR 1 w (.slice a n c) (CT l)) {j : Nat} {y : List UInt8} (hy : l[j]? = some y) : ∃ b o, a = some ⟨b, o, none⟩ ∧ w.cell? ⟨b, o + j, none⟩ = some (Sv y) := by
 obtain ⟨b, o, c', e, hc⟩ := ReadsR.at h j [Sv y] (by simp [CT, hy])
 injection e with e _ _
 have h0 := hc 0 _ rfl
 rw [Nat.mul_one, Nat.add_zero] at h0
 exact ⟨b, o, e, h0⟩
theorem keys_at {j : Nat} {z : La} (hz : K[j]? = some z) : (keysL K)[j]? = some z.k := by simp [keysL, hz]
end
end Go.Proofs.YtngnenbidpojeaaGreatDoor
