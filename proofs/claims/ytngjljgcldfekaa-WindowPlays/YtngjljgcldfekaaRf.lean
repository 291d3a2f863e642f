/-
  The document's window: place, Serials, Seen, Clients.
-/
import Derived.Test.YtngjljgcldfekaaWr
import Derived.Deep.RegionLaw
namespace Go.Proofs.Ytngjljgcldfekaa
open Go.RowKit
set_option linter.unusedVariables false
/-- A client of the document's, and where its serials lie. -/
structure Cq where
  x : Cl
  ad : Option Addr
  cap : Nat
instance : Inhabited Cq := ⟨⟨default, none, 0⟩⟩
abbrev Cq.sl (q : Cq) : Value := .slice q.ad q.x.s.length q.cap
def cellsQ (q : Cq) : List Value := [Uv q.x.c, q.sl]
def CQ (l : List Cq) : List (List Value) := l.map cellsQ
theorem CQ_length (l : List Cq) : (CQ l).length = l.length := by simp [CQ]
theorem CQ_append (a b : List Cq) : CQ (a ++ b) = CQ a ++ CQ b := by simp [CQ]
theorem CQ_wide (l : List Cq) : Wide 2 (CQ l) := fun r hr => by
  obtain ⟨x, _, rfl⟩ := List.mem_map.1 hr
  refine ⟨rfl, fun v hv => ?_⟩
  simp [cellsQ] at hv
  rcases hv with rfl | rfl <;> rfl
/-- The slice v reads as these clients. -/
def RowQ (w : World) (v : Value) (l : List Cq) : Prop := ReadsR 2 w v (CQ l)
def ValsQ (w : World) (l : List Cq) : Prop := ∀ q ∈ l, ReadsU w q.sl q.x.s
/-- A slice's block, if it has one, is of the type t. -/
def Typ (w : World) (v : Value) (t : TypeId) : Prop := ∀ g, v.ownBlock = some g → ∃ cs, w.heap[g]? = some (.cells cs t (0, 0))
section
variable {w0 w w' : World} {p : Nat} {v : Value} {qs : List Cq}
theorem Typ.ne {t t' : TypeId} (h : Typ w v t) {cs : Array Value} {fz : Nat × Nat} (hp : w.heap[p]? = some (.cells cs t' fz)) (hn : t ≠ t') : ∀ g, v.ownBlock = some g → g ∉ [p] := fun g hg hm => by
  simp at hm
  subst hm
  obtain ⟨cs', h'⟩ := h g hg
  rw [h'] at hp
  injection hp with hp
  injection hp with _ hp _
  exact hn hp
theorem Typ.kept {t : TypeId} {S : List Nat} (h : Typ w v t) (k : Kept S w w') (hn : ∀ g, v.ownBlock = some g → g ∉ S) : Typ w' v t := fun g hg => by
  obtain ⟨cs, h'⟩ := h g hg
  exact ⟨cs, k.keeps h' (hn g hg)⟩
theorem Typ.nil (w : World) (n c : Nat) (t : TypeId) : Typ w (.slice none n c) t := fun g hg => by simp [Value.ownBlock] at hg
theorem ownsR_typ {e : TypeId} {k : Nat} {rs : List (List Value)} (h : OwnsR e k w v rs) : Typ w v e := fun g hg => by
  rcases h.2 with ⟨rfl, _⟩ | ⟨g1, cap, cur, rfl, _, hb, _⟩
  · simp [Value.ownBlock] at hg
  · simp [Value.ownBlock] at hg
    subst hg
    exact ⟨_, hb⟩
theorem RowQ.kept {S : List Nat} (h : RowQ w v qs) (k : Kept S w w') (hn : ∀ g, v.ownBlock = some g → g ∉ S) : RowQ w' v qs := ReadsR.kept h k hn
theorem RowQ.bound {a : Option Addr} {n c : Nat} (h : RowQ w (.slice a n c) qs) : n = qs.length ∧ n ≤ c ∧ c ≤ 9223372036854775807 := by
  obtain ⟨a', c', e, h1, h2⟩ := ReadsR.form h
  rw [CQ_length] at e h1
  injection e with _ e2 e3
  subst e2 e3
  exact ⟨rfl, h1, h2⟩
theorem RowQ.form (h : RowQ w v qs) : ∃ a c, v = .slice a qs.length c ∧ qs.length ≤ c ∧ c ≤ 9223372036854775807 := by
  have := ReadsR.form h
  rwa [CQ_length] at this
theorem RowQ.at {a : Option Addr} {n c : Nat} (h : RowQ w (.slice a n c) qs) {j : Nat} {q : Cq} (hq : qs[j]? = some q) : ∃ b o, a = some ⟨b, o, none⟩ ∧ w.cell? ⟨b, o + j * 2, none⟩ = some (Uv q.x.c) ∧ w.cell? ⟨b, o + j * 2 + 1, none⟩ = some q.sl := by
  obtain ⟨b, o, c', e, hc⟩ := ReadsR.at h j (cellsQ q) (by simp [CQ, hq])
  injection e with e _ _
  have h0 := hc 0 _ rfl
  have h1 := hc 1 _ rfl
  rw [Nat.add_zero] at h0
  exact ⟨b, o, e, h0, h1⟩
/-- The document's window at block p: its row is v, its clients are qs. -/
structure IsF (w : World) (p : Nat) (v : Value) (qs : List Cq) : Prop where
  box : w.heap[p]? = some (.cells #[v] 29 (0, 0))
  row : RowQ w v qs
  vals : ValsQ w qs
  tv : Typ w v 59
  ts : ∀ q ∈ qs, Typ w q.sl 30
theorem IsF.lt (h : IsF w p v qs) : p < w.heap.size := lt_of_block h.box
/-- What turns another block, of another type. -/
theorem IsF.besides (h : IsF w p v qs) {p' : Nat} {cs : Array Value} {t : TypeId} {fz : Nat × Nat} (hp : w.heap[p']? = some (.cells cs t fz)) (h1 : t ≠ 29) (h2 : t ≠ 59) (h3 : t ≠ 30) (k : Kept [p'] w w') : IsF w' p v qs :=
  ⟨k.keeps h.box (by simp; exact box_ne h.box hp (Ne.symm h1)), h.row.kept k (h.tv.ne hp (Ne.symm h2)), fun q hq => (h.vals q hq).kept k ((h.ts q hq).ne hp (Ne.symm h3)), h.tv.kept k (h.tv.ne hp (Ne.symm h2)), fun q hq => (h.ts q hq).kept k ((h.ts q hq).ne hp (Ne.symm h3))⟩
theorem IsF.kept0 (h : IsF w p v qs) (k : Kept [] w w') : IsF w' p v qs :=
  ⟨k.keeps h.box (by simp), h.row.kept k (by simp), fun q hq => (h.vals q hq).kept0 k, h.tv.kept k (by simp), fun q hq => (h.ts q hq).kept k (by simp)⟩
def mx (qs : List Cq) : List Cl := qs.map (·.x)
theorem mx_get {j : Nat} {x : Cl} (h : (mx qs)[j]? = some x) : ∃ q, qs[j]? = some q ∧ q.x = x := by
  rw [mx, List.getElem?_map, Option.map_eq_some_iff] at h
  exact h
theorem mx_take {j : Nat} {y : Cq} (h : y ∈ qs.take j) : y.x ∈ (mx qs).take j := by
  rw [mx, ← List.map_take]
  exact List.mem_map.2 ⟨y, h, rfl⟩
set_option maxRecDepth 100000 in
set_option maxHeartbeats 1000000 in
theorem place31_some (hB : IsF w p v qs) {j0 : Nat} {q : Cq} (hj0 : qs[j0]? = some q) {c : Nat} (hx : q.x.c = c) (hno : ∀ y ∈ qs.take j0, y.x.c ≠ c) : Calls Try.prog 31 #[.pointer (some ⟨p, 0, none⟩), Uv c] w fun e w' => e = .returned (.int .i64 (j0 : Int)) ∧ w = w' := by
  obtain ⟨av, cv, rfl, hv1, hv2⟩ := hB.row.form
  have HB := Hid.mk hB
  have HJ := Hid.mk hj0
  have HX := Hid.mk hx
  have HNO := Hid.mk hno
  have hc := cell_of_one hB.box
  have hlt0 := (List.getElem?_eq_some_iff.1 hj0).1
  clear hB hj0 hx hno
  generalize hn : qs.length = n at *
  have HN := Hid.mk hn
  clear hn
  go_enter Try.func31, Try.ntmps31
  go_wp2_with fail
  go_loopw [11] (fun i wr => ∃ j : Nat, i = .int .i64 (j : Int) ∧ j ≤ j0 ∧ Hid (w = wr)) (fun i _ => n - (intOf i).toNat)
  case atStart => exact ⟨0, rfl, by omega, Hid.mk rfl⟩
  case round =>
    obtain ⟨j, rfl, hj, kk⟩ := hrel
    obtain rfl := kk.out
    clear kk
    have hjI : (j : Int) < (n : Int) := by omega
    by_cases hlt : j < j0
    · obtain ⟨y, hy⟩ : ∃ y, qs[j]? = some y := ⟨_, List.getElem?_eq_getElem (by have := HN.out; omega)⟩
      obtain ⟨b, o, rfl, d0, d1⟩ := HB.out.row.at hy
      have hqc : y.x.c ≠ c := HNO.out y (List.mem_of_getElem? (i := j) (by rw [List.getElem?_take_of_lt hlt]; exact hy))
      have g1 : ((y.x.c : Int) == (c : Int)) = false := by simp; omega
      clear hqc hy
      go_wp2_with fail
      go_roundw
      case rel => exact ⟨j + 1, by go_num, by omega, by trivial⟩
      case measure => simp [intOf]; omega
    · obtain rfl : j = j0 := by omega
      obtain ⟨b, o, rfl, d0, d1⟩ := HB.out.row.at HJ.out
      have g1 : ((q.x.c : Int) == (c : Int)) = true := by rw [HX.out]; simp
      go_wp2_with fail
      go_ret
      exact ⟨rfl, rfl⟩
set_option maxRecDepth 100000 in
set_option maxHeartbeats 1000000 in
theorem place31_none (hB : IsF w p v qs) {c : Nat} (hno : ∀ y ∈ qs, y.x.c ≠ c) : Calls Try.prog 31 #[.pointer (some ⟨p, 0, none⟩), Uv c] w fun e w' => e = .returned (.int .i64 (-1)) ∧ w = w' := by
  obtain ⟨av, cv, rfl, hv1, hv2⟩ := hB.row.form
  have HB := Hid.mk hB
  have HNO := Hid.mk hno
  have hc := cell_of_one hB.box
  clear hB hno
  generalize hn : qs.length = n at *
  have HN := Hid.mk hn
  clear hn
  go_enter Try.func31, Try.ntmps31
  go_wp2_with fail
  go_loopw [11] (fun i wr => ∃ j : Nat, i = .int .i64 (j : Int) ∧ j ≤ n ∧ Hid (w = wr)) (fun i _ => n - (intOf i).toNat)
  case atStart => exact ⟨0, rfl, by omega, Hid.mk rfl⟩
  case round =>
    obtain ⟨j, rfl, hj, kk⟩ := hrel
    obtain rfl := kk.out
    clear kk
    by_cases hlt : j < n
    · have hjI : (j : Int) < (n : Int) := by omega
      obtain ⟨y, hy⟩ : ∃ y, qs[j]? = some y := ⟨_, List.getElem?_eq_getElem (by have := HN.out; omega)⟩
      obtain ⟨b, o, rfl, d0, d1⟩ := HB.out.row.at hy
      have hqc : y.x.c ≠ c := HNO.out y (List.mem_of_getElem? hy)
      have g1 : ((y.x.c : Int) == (c : Int)) = false := by simp; omega
      clear hqc hy
      go_wp2_with fail
      go_roundw
      case rel => exact ⟨j + 1, by go_num, by omega, by trivial⟩
      case measure => simp [intOf]; omega
    · obtain rfl : j = n := by omega
      go_wp2_with fail
      go_ret
      exact ⟨rfl, rfl⟩
set_option maxRecDepth 100000 in
set_option maxHeartbeats 1000000 in
theorem rser18_none {c : Nat} (hF : Calls Try.prog 31 #[.pointer (some ⟨p, 0, none⟩), Uv c] w fun e w' => e = .returned (.int .i64 (-1)) ∧ w = w') : Calls Try.prog 18 #[.pointer (some ⟨p, 0, none⟩), Uv c] w fun e w' => e = .returned (.slice none 0 0) ∧ w = w' := by
  have HF := Hid.mk hF
  clear hF
  go_enter Try.func18, Try.ntmps18
  go_wp2_with fail
  refine HF.out.mono ?_
  rintro e w1 ⟨rfl, rfl⟩
  go_wp2_with fail
  go_ret
  exact ⟨rfl, rfl⟩
set_option maxRecDepth 100000 in
set_option maxHeartbeats 1000000 in
theorem rser18_some (hB : IsF w p v qs) {j0 : Nat} {q : Cq} (hj0 : qs[j0]? = some q) {c : Nat} (hx : q.x.c = c) (hno : ∀ y ∈ qs.take j0, y.x.c ≠ c) (h4 : q.x.s.length ≤ 4) : Calls Try.prog 18 #[.pointer (some ⟨p, 0, none⟩), Uv c] w fun e w' => NewU w q.x.s e w' := by
  obtain ⟨av, cv, rfl, hv1, hv2⟩ := hB.row.form
  have HF := Hid.mk (place31_some hB hj0 hx hno)
  obtain ⟨b, o, rfl, d0, d1⟩ := hB.row.at hj0
  have hlt0 := (List.getElem?_eq_some_iff.1 hj0).1
  have hc := cell_of_one hB.box
  obtain ⟨a2, c2, w2, hrun, ho, hk, hf⟩ := cloneU (hB.vals q (List.mem_of_getElem? hj0)) (by omega)
  have HH : Hid (NewU w q.x.s (.returned (.slice a2 q.x.s.length c2)) w2) := ⟨_, rfl, ho, hk, hf⟩
  have k1 := (Kept.refl [] w).alloc (.cells #[] 30)
  have hc' := k1.cell_eq hc
  have d1' := k1.cell_eq d1
  have hneg : ((j0 : Int) < 0) = False := eq_false (by omega)
  have h0 : (0 : Int) ≤ (j0 : Int) := by omega
  have hjn : (j0 : Int) < (qs.length : Int) := by omega
  clear hB hj0 hx hno ho hk hf
  generalize qs.length = n at *
  generalize NewU w q.x.s = R at HH
  go_enter Try.func18, Try.ntmps18
  go_wp2_with fail
  refine HF.out.mono ?_
  rintro e w1 ⟨rfl, rfl⟩
  go_wp2_with (at_builtin; refine wpList_append_run 42 42 _ _ rfl (by rfl) _ _ rfl rfl _ _ hrun ?_)
  exact HH.out
theorem rser18 (hB : IsF w p v qs) (h4 : Four (mx qs)) (c : Nat) : Calls Try.prog 18 #[.pointer (some ⟨p, 0, none⟩), Uv c] w fun e w' => NewU w (srl (mx qs) c) e w' := by
  rcases where_is (mx qs) c with ⟨j, x, h1, h2, h3, hs⟩ | ⟨h1, h2⟩
  · obtain ⟨q, hq, rfl⟩ := mx_get h1
    rw [hs]
    exact rser18_some hB hq h2 (fun y hy => h3 y.x (mx_take hy)) (h4 q.x (List.mem_of_getElem? h1))
  · rw [h2]
    refine (rser18_none (place31_none hB fun y hy => h1 y.x (List.mem_map.2 ⟨y, hy, rfl⟩))).mono ?_
    rintro e w' ⟨rfl, rfl⟩
    exact ⟨_, rfl, OwnsU.nil w, Kept.refl [] w, fun g hg => by simp [Value.ownBlock] at hg⟩
set_option maxRecDepth 100000 in
set_option maxHeartbeats 1000000 in
theorem rseen15 (hB : IsF w p v qs) (h4 : Four (mx qs)) (c s : Nat) : Calls Try.prog 15 #[.pointer (some ⟨p, 0, none⟩), Uv c, Uv s] w fun e w' => e = .returned (.bool (seenL (mx qs) c s)) ∧ Kept [] w w' := by
  have HS := Hid.mk (rser18 hB h4 c)
  have HY : Hid (s ∈ srl (mx qs) c → seenL (mx qs) c s = true) := fun h => by unfold seenL; simp [h]
  have HO : Hid (s ∉ srl (mx qs) c → seenL (mx qs) c s = false) := fun h => by unfold seenL; simp [h]
  generalize seenL (mx qs) c s = D at HY HO
  generalize srl (mx qs) c = l at HS HY HO
  clear hB h4
  go_enter Try.func15, Try.ntmps15
  go_wp2_with fail
  refine HS.out.mono ?_
  rintro e w1 ⟨v1, rfl, hO, k1, -⟩
  obtain ⟨a, ca, rfl, hc1, hc2⟩ := hO.form
  have HR := Hid.mk hO.reads
  clear hO
  generalize hn : l.length = n at *
  have HN := Hid.mk hn
  clear hn
  go_wp2_with fail
  go_loopw [14] (fun i wr => ∃ j : Nat, i = .int .i64 (j : Int) ∧ j ≤ n ∧ Hid (s ∉ l.take j) ∧ Hid (w1 = wr)) (fun i _ => n - (intOf i).toNat)
  case atStart => exact ⟨0, rfl, by omega, Hid.mk (by simp), Hid.mk rfl⟩
  case round =>
    obtain ⟨j, rfl, hj, ht, kk⟩ := hrel
    obtain rfl := kk.out
    clear kk
    by_cases hlt : j < n
    · obtain ⟨q, hq⟩ : ∃ q, l[j]? = some q := ⟨_, List.getElem?_eq_getElem (by have := HN.out; omega)⟩
      obtain ⟨b, o, rfl, d0⟩ := HR.out.at hq
      have HQ := Hid.mk hq
      clear hq
      have hjI : (j : Int) < (n : Int) := by omega
      by_cases hx : q = s
      · have g1 : ((q : Int) == (s : Int)) = true := by simp [hx]
        have hm : s ∈ l := by rw [← hx]; exact List.mem_of_getElem? HQ.out
        obtain rfl := HY.out hm
        clear hx hm
        go_wp2_with fail
        go_ret
        exact ⟨rfl, k1⟩
      · have g1 : ((q : Int) == (s : Int)) = false := by simp; omega
        have HX := Hid.mk hx
        clear hx
        go_wp2_with fail
        go_roundw
        case rel =>
          refine ⟨j + 1, by go_num, by omega, Hid.mk ?_, by trivial⟩
          rw [List.take_add_one, HQ.out]
          simp only [Option.toList_some, List.mem_append, List.mem_singleton, not_or]
          exact ⟨ht.out, fun e => HX.out e.symm⟩
        case measure => simp [intOf]; omega
    · obtain rfl : j = n := by omega
      have hno : s ∉ l := by
        have := ht.out
        rwa [List.take_of_length_le (by rw [← HN.out]; exact Nat.le_refl _)] at this
      obtain rfl := HO.out hno
      clear hno
      go_wp2_with fail
      go_ret
      exact ⟨rfl, k1⟩
end
end Go.Proofs.Ytngjljgcldfekaa
