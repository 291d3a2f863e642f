import Derived.Deep.RegionHeld3
import Derived.Test.YtibapmjgpnldgaaGreatDoorQ26
import Derived.Test.YtibapmjgpnldgaaGreatDoorQ27
import Derived.Test.YtibapmjgpnldgaaGreatDoorQ36
import Derived.Test.YtibapmjgpnldgaaGreatDoorQ40
/-
  CodeParses: the walk.
-/
namespace Go.Proofs.YtibapmjgpnldgaaGreatDoor
open Go.RowKit
set_option maxRecDepth 100000
set_option linter.unusedVariables false
theorem isP_nil (w : World) : IsP w (.slice none 0 0) (.slice none 0 0) ⟨[], []⟩ := ⟨(OwnsR.nil 9 1 w).reads (wideN []), (OwnsR.nil 53 2 w).reads (wideI [])⟩
/-- What Parse answers, of any text. -/
def parQ (s : List UInt8) : Pg := if 20000 < s.length then ⟨[], []⟩ else match parseP s with
  | .inl _ => ⟨[], []⟩
  | .inr p => p
def parN (s : List UInt8) : Nat := if 20000 < s.length then 0 else match parseP s with
  | .inl n => n
  | .inr _ => 0
def parE (s : List UInt8) : Int := if 20000 < s.length then 4 else match parseP s with
  | .inl _ => 2
  | .inr _ => 0
theorem ParseR.any {s : List UInt8} {w' : World} {e : Ending} (h : ParseR s w' e) : ∃ (a b : Option Addr) (c d : Nat), e = .returned (.tuple #[.agg #[.slice a (parQ s).names.length c, .slice b (parQ s).code.length d], .int .i64 (parN s : Int), .int .i64 (parE s)]) ∧ IsP w' (.slice a (parQ s).names.length c) (.slice b (parQ s).code.length d) (parQ s) := by
  unfold parQ parN parE
  rcases h with ⟨h, he⟩ | ⟨h, n, hn, he⟩ | ⟨h, p, v, u, hp, hi, he⟩
  · rw [if_pos h, if_pos h, if_pos h]
    exact ⟨none, none, 0, 0, he, isP_nil _⟩
  · rw [if_neg (by omega), if_neg (by omega), if_neg (by omega), hn]
    exact ⟨none, none, 0, 0, he, isP_nil _⟩
  · rw [if_neg (by omega), if_neg (by omega), if_neg (by omega), hp]
    obtain ⟨a, c, b, d, rfl, rfl, -, -⟩ := hi.form
    exact ⟨a, b, c, d, he, hi⟩
theorem parQ_small (s : List UInt8) : (parQ s).names.length ≤ 8 ∧ (parQ s).code.length ≤ 200 := by
  unfold parQ
  split
  · exact ⟨by decide, by decide⟩
  · cases h : parseP s with
    | inl n => exact ⟨Nat.zero_le _, Nat.zero_le _⟩
    | inr p => exact ⟨(formed_parts (print_parse h).1).1, (formed_parts (print_parse h).1).2.1⟩
section
variable {w : World}
set_option maxHeartbeats 8000000 in
theorem parses_walk (hG : Glob w) (s : List UInt8) (hs : s.length ≤ 9223372036854775807) : Calls Tryz.prog 9 #[.string ⟨s.toArray⟩] w fun e w' => e = .returned (.bool true) ∧ Kept [] w w' := by
  have HAw := Hid.mk (awake8 hG)
  have HPa : Hid (∀ W, Kept [] w W → Calls Tryz.prog 11 #[.string ⟨s.toArray⟩] W fun e w' => (∃ (a b : Option Addr) (c d : Nat), e = .returned (.tuple #[.agg #[.slice a (parQ s).names.length c, .slice b (parQ s).code.length d], .int .i64 (parN s : Int), .int .i64 (parE s)]) ∧ IsP w' (.slice a (parQ s).names.length c) (.slice b (parQ s).code.length d) (parQ s)) ∧ Kept [] W w') := fun W k => (parse17 (hG.kept k) s hs).mono fun e w' h => ⟨h.1.any, h.2⟩
  have HPd : Hid (∀ W, Calls Tryz.prog 21 #[.string ⟨s.toArray⟩] W fun e w' => (∃ (a b : Option Addr) (c d : Nat), e = .returned (.tuple #[.agg #[.slice a (parQ s).names.length c, .slice b (parQ s).code.length d], .int .i64 (parN s : Int), .int .i64 (parE s)]) ∧ IsP w' (.slice a (parQ s).names.length c) (.slice b (parQ s).code.length d) (parQ s)) ∧ Kept [] W w') := fun W => (parse18 s hs).mono fun e w' h => ⟨h.1.any, h.2⟩
  have hq := parQ_small s
  generalize parQ s = Q at *
  generalize parN s = pn at *
  generalize parE s = pe at *
  have HOu : Hid (∀ (v u : Value) W, IsP W v u Q → Calls Tryz.prog 23 #[.agg #[v, u]] W fun e w' => ∃ v' u', e = .returned (.agg #[v', u']) ∧ IsP w' v' u' Q ∧ Kept [] W w') := fun v u W h => ours19 h (by omega) (by omega)
  have HSm : Hid (∀ (v u v' u' : Value) W, IsP W v u Q → IsP W v' u' Q → Calls Tryz.prog 22 #[.agg #[v, u], .agg #[v', u']] W fun e w' => e = .returned (.bool true) ∧ Kept [] W w') := fun v u v' u' W h h' => same16 h h'
  obtain ⟨nn, hnn⟩ : ∃ n, Q.names.length = n := ⟨_, rfl⟩
  obtain ⟨nc, hnc⟩ : ∃ n, Q.code.length = n := ⟨_, rfl⟩
  rw [hnn, hnc] at HPa HPd
  clear hnn hnc hq hG
  go_enter Tryz.func9, Tryz.ntmps9
  go_wp2_with fail
  refine HAw.out.mono ?_
  rintro e w1 ⟨rfl, k1⟩
  have HK1 := Hid.mk k1
  clear k1 HAw
  go_wp2_with fail
  refine (HPa.out w1 HK1.out).mono ?_
  rintro e w6 ⟨⟨a6, b6, c6, d6, rfl, i6⟩, k6⟩
  obtain ⟨W7, e7, k7, hz7, hb7⟩ := box1 w6 (.cells #[.slice a6 nn c6, .slice b6 nc d6] 33)
  have HK7 := Hid.mk ((HK1.out.then k6).then k7)
  have HI7 := Hid.mk (i6.keep k7)
  have HB7 := Hid.mk hb7
  clear k6 k7 i6 hz7 hb7
  go_wp2_with fail
  refine (HPd.out W7).mono ?_
  rintro e w8 ⟨⟨a8, b8, c8, d8, rfl, i8⟩, k8⟩
  obtain ⟨W9, e9, k9, hz9, hb9⟩ := box1 w8 (.cells #[.slice a8 nn c8, .slice b8 nc d8] 25)
  have HK9 := Hid.mk ((HK7.out.then k8).then k9)
  have HI6 : Hid (∀ W, Kept [] W9 W → IsP W (.slice a6 nn c6) (.slice b6 nc d6) Q) := fun W k => HI7.out.keep ((k8.then k9).then k)
  have HI8 : Hid (∀ W, Kept [] W9 W → IsP W (.slice a8 nn c8) (.slice b8 nc d8) Q) := fun W k => i8.keep (k9.then k)
  have HS : Hid (∀ W, Kept [] W9 W → (W.cell? ⟨w6.heap.size, 0, none⟩ = some (.slice a6 nn c6) ∧ W.cell? ⟨w6.heap.size, 1, none⟩ = some (.slice b6 nc d6)) ∧ W.cell? ⟨w8.heap.size, 0, none⟩ = some (.slice a8 nn c8) ∧ W.cell? ⟨w8.heap.size, 1, none⟩ = some (.slice b8 nc d8)) := fun W k => ⟨cells2 (((k8.then k9).then k).keeps HB7.out (by simp)), cells2 (k.keeps hb9 (by simp))⟩
  have K0 : Hid (Kept [] W9 W9.drew) := (Kept.refl [] W9).drew
  have S0 := HS.out _ K0.out
  clear k8 k9 hz9 hb9 i8 HB7 HI7
  go_wp2_with fail
  generalize w6.heap.size = g6 at *
  generalize w8.heap.size = g8 at *
  go_region_held3 (fun V => (V.cell? ⟨g6, 0, none⟩ = some (.slice a6 nn c6) ∧ V.cell? ⟨g6, 1, none⟩ = some (.slice b6 nc d6)) ∧ V.cell? ⟨g8, 0, none⟩ = some (.slice a8 nn c8) ∧ V.cell? ⟨g8, 1, none⟩ = some (.slice b8 nc d8)) (first | with_reducible exact S0 | with_reducible exact S1 | with_reducible exact S2) (first | (go_at_call 22; (with_reducible refine (HSm.out _ _ _ _ _ I1.out (HI8.out _ K1.out)).mono ?_); rintro e w22 ⟨rfl, k⟩; have K2 := Hid.mk (K1.out.then k); have S2 := HS.out _ K2.out; clear k) | (go_at_call 23; (with_reducible refine (HOu.out _ _ _ (HI6.out _ K0.out)).mono ?_); rintro e w21 ⟨v1, u1, rfl, i1, k⟩; have I1 := Hid.mk i1; have K1 := Hid.mk (K0.out.then k); have S1 := HS.out _ K1.out; clear i1 k))
  have HK22 := Hid.mk (HK9.out.then K2.out)
  clear S0 S1 S2 K0 K1 K2 I1 HS HI6 HI8
  go_wp2_with fail
  go_ret
  exact ⟨rfl, HK22.out⟩
end
end Go.Proofs.YtibapmjgpnldgaaGreatDoor
/-
  Bytes that are turned and cut.
-/
namespace Go.Proofs.YtibapmjgpnldgaaGreatDoor
open Go.RowKit
set_option maxRecDepth 100000
set_option linter.unusedVariables false
/-- An index, cut to the length. -/
theorem idx_of (k : Int) (f : Nat) (hf : 0 < f) (hf2 : f ≤ 1000000) : ∃ i : Nat, i < f ∧ wrap64 ((IntKind.u64.wrap k).tmod (f : Int)) = (i : Int) ∧ IntKind.i64.wrap ((IntKind.u64.wrap k).tmod (f : Int)) = (i : Int) := by
  have h0 : 0 ≤ IntKind.u64.wrap k := by rw [IntKind.wrap_u64]; omega
  have h1 : 0 ≤ IntKind.u64.wrap k % (f : Int) := Int.emod_nonneg _ (by omega)
  have h2 : IntKind.u64.wrap k % (f : Int) < (f : Int) := Int.emod_lt_of_pos _ (by omega)
  rw [Int.tmod_eq_emod_of_nonneg h0]
  obtain ⟨i, hi⟩ := Int.eq_ofNat_of_zero_le h1
  rw [hi] at h2 ⊢
  refine ⟨i, by omega, ?_, ?_⟩
  · unfold wrap64
    omega
  · rw [IntKind.wrap_i64]
    omega
/-- A row of one's own that is not empty. -/
theorem Owns.some {w : World} {v : Value} {l : List UInt8} (h : Owns 5 w v l) (hl : 0 < l.length) : ∃ g cap, v = .slice (some ⟨g, 0, none⟩) l.length cap ∧ l.length ≤ cap ∧ cap ≤ 9223372036854775807 ∧ ∀ j, j < l.length → ∃ u, w.cell? ⟨g, j, none⟩ = some (.int .u8 u) ∧ w.frozen? ⟨g, j, none⟩ = false := by
  have hr := h.reads
  rcases h.2 with ⟨rfl, h0⟩ | ⟨g, cap, cur, rfl, _, hg, h1, h2, h3, h4⟩
  · omega
  · refine ⟨g, cap, rfl, h1, h2, fun j hj => ?_⟩
    obtain ⟨a, c, e, _, _, _, h5⟩ := hr
    obtain ⟨b, o, rfl, hc⟩ := h5 (by intro e; subst e; simp at hl)
    injection e with e _ _
    injection e with e
    injection e with e1 e2 _
    subst e1 e2
    have := hc j _ (List.getElem?_eq_getElem hj)
    rw [Nat.zero_add] at this
    exact ⟨_, this, by simp [World.frozen?, hg]⟩
theorem Owns.cell_at {w : World} {g n cap : Nat} {l : List UInt8} (h : Owns 5 w (.slice (Option.some ⟨g, 0, none⟩) n cap) l) (hn : n = l.length) {j : Nat} (hj : j < n) : ∃ u, w.cell? ⟨g, j, none⟩ = Option.some (.int .u8 u) ∧ w.frozen? ⟨g, j, none⟩ = false := by
  subst hn
  obtain ⟨g', cap', e, _, _, hc⟩ := h.some (by omega)
  injection e with e _ _
  injection e with e
  injection e with e _ _
  subst e
  exact hc j hj
/-- A byte that is turned. -/
theorem reads_set {w : World} {g n cap k : Nat} {l : List UInt8} (h : Reads w (.slice (some ⟨g, 0, none⟩) n cap) l) (u : UInt8) : Reads (w.setCell ⟨g, k, none⟩ (.int .u8 (u.toNat : Int))) (.slice (some ⟨g, 0, none⟩) n cap) (l.set k u) := by
  obtain ⟨a, c, e, h2, h3, h4, h5⟩ := h
  injection e with e1 e2 e3
  subst e1 e2 e3
  refine ⟨_, cap, by rw [List.length_set], by rw [List.length_set]; exact h2, h3, by simp, fun hne => ⟨g, 0, rfl, fun j y hy => ?_⟩⟩
  obtain ⟨b, o, e, hc⟩ := h5 (by intro e; subst e; simp at hne)
  injection e with e
  injection e with e1 e2 _
  subst e1 e2
  rw [List.getElem?_set] at hy
  rw [Nat.zero_add]
  split at hy
  · rename_i hkj
    subst hkj
    split at hy
    · rename_i hlt
      cases hy
      have := hc k _ (List.getElem?_eq_getElem hlt)
      rw [Nat.zero_add] at this
      exact World.cell?_setCell_same _ _ _ this
    · cases hy
  · rename_i hkj
    have := hc j y hy
    rw [Nat.zero_add] at this
    rw [World.cell?_setCell_other _ _ _ _ (by intro e; injection e; omega)]
    exact this
theorem reads_take {w : World} {a : Option Addr} {n cap k : Nat} {l : List UInt8} (h : Reads w (.slice a n cap) l) (hk : k ≤ n) : Reads w (.slice a k cap) (l.take k) := by
  obtain ⟨a, c, e, h2, h3, h4, h5⟩ := h
  injection e with e1 e2 e3
  subst e1 e2 e3
  have hl : (l.take k).length = k := by rw [List.length_take]; omega
  refine ⟨_, _, by rw [hl], by rw [hl]; omega, h3, h4, fun hne => ?_⟩
  obtain ⟨b, o, e, hc⟩ := h5 (by intro e; subst e; simp at hne)
  exact ⟨b, o, e, fun j u hu => hc j u (by
    have hj := (List.getElem?_eq_some_iff.1 hu).1
    rw [hl] at hj
    rwa [List.getElem?_take_of_lt hj] at hu)⟩
/-- '[]byte(s)': memory of its own. -/
theorem bytes_of (w : World) (l : List UInt8) (hl : l.length ≤ maxLen) : ∃ cap w', (convert 9 35 (.string ⟨l.toArray⟩)).run Tryz.prog w = .ok (.slice (some ⟨w.heap.size, 0, none⟩) l.length cap) w' ∧ Reads w' (.slice (some ⟨w.heap.size, 0, none⟩) l.length cap) l ∧ Kept [] w w' ∧ w.heap.size < w'.heap.size ∧ l.length ≤ cap ∧ cap ≤ 9223372036854775807 ∧ ∀ j, j < l.length → ∃ u, w'.cell? ⟨w.heap.size, j, none⟩ = some (.int .u8 u) ∧ w'.frozen? ⟨w.heap.size, j, none⟩ = false := by
  have hsz : (⟨l.toArray⟩ : ByteArray).size = l.length := by simp [ByteArray.size]
  have hrun := run_bytes_of_string (P := Tryz.prog) w 9 35 5 ⟨l.toArray⟩ Tryz.underlying9 Tryz.underlying35 Tryz.underlying5
  rw [hsz] at hrun
  have hm : maxLen ≤ 9223372036854775807 := by decide
  have h1 := grownCap_ge w l.length 0 5
  have h2 := grownCap_le_maxLen w l.length 0 5 hl
  have hcell : ∀ j u, l[j]? = some u → (w.drew.alloc (.cells (bytesRow ⟨l.toArray⟩ (grownCap w l.length 0 5)) 5 ((bytesRow ⟨l.toArray⟩ (grownCap w l.length 0 5)).size, (bytesRow ⟨l.toArray⟩ (grownCap w l.length 0 5)).size + 1))).cell? ⟨w.heap.size, j, none⟩ = some (B8 u) := fun j u hu => by
    rw [cell_of_row _ w.heap.size j _ 5 _ (heap_alloc_new w.drew _)]
    have hj : j < l.length := (List.getElem?_eq_some_iff.1 hu).1
    unfold bytesRow
    rw [Array.getElem?_append_left (by simpa using hj)]
    simp [hu, B8]
  refine ⟨_, _, hrun, ⟨_, _, rfl, h1, h2, by simp, fun _ => ⟨w.heap.size, 0, rfl, fun j u hu => ?_⟩⟩, ((Kept.refl [] w).drew).alloc _, by simp, h1, by omega, fun j hj => ⟨_, hcell j _ (List.getElem?_eq_getElem hj), ?_⟩⟩
  · rw [Nat.zero_add]
    exact hcell j u hu
  · have hb := heap_alloc_new w.drew (.cells (bytesRow ⟨l.toArray⟩ (grownCap w l.length 0 5)) 5 ((bytesRow ⟨l.toArray⟩ (grownCap w l.length 0 5)).size, (bytesRow ⟨l.toArray⟩ (grownCap w l.length 0 5)).size + 1))
    have hs : l.length ≤ (bytesRow ⟨l.toArray⟩ (grownCap w l.length 0 5)).size := by unfold bytesRow; simp
    have hb' : (w.drew.alloc (.cells (bytesRow ⟨l.toArray⟩ (grownCap w l.length 0 5)) 5 ((bytesRow ⟨l.toArray⟩ (grownCap w l.length 0 5)).size, (bytesRow ⟨l.toArray⟩ (grownCap w l.length 0 5)).size + 1))).heap[w.heap.size]? = some (.cells (bytesRow ⟨l.toArray⟩ (grownCap w l.length 0 5)) 5 ((bytesRow ⟨l.toArray⟩ (grownCap w l.length 0 5)).size, (bytesRow ⟨l.toArray⟩ (grownCap w l.length 0 5)).size + 1)) := hb
    unfold World.frozen?
    rw [hb']
    generalize (bytesRow ⟨l.toArray⟩ (grownCap w l.length 0 5)).size = z at *
    simp
    omega
end Go.Proofs.YtibapmjgpnldgaaGreatDoor
