import Derived.Deep.RegionHeld3
import Derived.Laws.Rows
import Derived.Laws.CopyRow
import Derived.Test.YtdadloaifebdiaaQ03
import Derived.Test.YtdadloaifebdiaaQ05
import Derived.Test.YtdadloaifebdiaaQ07
import Derived.Test.YtdadloaifebdiaaQ08
import Derived.Test.YtdadloaifebdiaaQ11
/-
  Steps of a region by run equations; blocks of cells; copy of rows. Over any program.
-/
namespace Go.Proofs.Ytdadloaifebdiaa
set_option maxRecDepth 100000
open Go.RowKit
set_option linter.unusedVariables false
theorem Kept.setRow {S : List Nat} {a w : World} (h : Kept S a w) {g : Nat} (hp : g ∈ S ∨ a.heap.size ≤ g) (cs : Array Value) : Kept S a (w.setRow g cs) :=
  ⟨h.os, h.tape, h.output, by simpa [World.setRow] using h.size, fun k hk hn => by
    rw [setRow_other w g k cs (fun e => by subst e; rcases hp with h1 | h1; exact hn h1; omega)]; exact h.block k hk hn⟩
section
variable {P : Program} {w : World}
variable {b : Nat} {v0 v1 v2 v3 x : Value} {t : TypeId}
end
section
variable {P : Program}
theorem run_copy_rowK (w : World) (dT sT ty elem : TypeId) (k g o dLen dCap : Nat) (a : Addr) (sLen sCap : Nat) (cur : Array Value) (t : TypeId) (cs : List Value)
    (hu : P.underlying dT = some (.slice elem)) (hs : (P.info? elem).map (·.size) = some k)
    (hg : w.heap[g]? = some (.cells cur t (0, 0))) (hn : cs.length = Nat.min sLen dLen * k)
    (hsrc : ∀ j v, cs[j]? = some v → w.cell? (a.add j) = some v) (hfit : o + cs.length ≤ cur.size) (h1 : ∀ v ∈ cs, v.oneCell' = true) :
    (Builtin.copy_ #[dT, sT] ty #[.slice (some ⟨g, o, none⟩) dLen dCap, .slice (some a) sLen sCap]).run P w =
      .ok (goInt (Nat.min sLen dLen)) (w.setRow g (cur.toList.take o ++ cs ++ cur.toList.drop (o + cs.length)).toArray) := by
  have hl := run_loadCells_list (P := P) w a cs hsrc
  have hst := run_storeCells_at P g o t cs 0 cur w hg (by simpa using hfit) h1
  cases hq : P.info? elem with
  | none => simp [hq] at hs
  | some i =>
    have hi : i.size = k := by simpa [hq] using hs
    simp [Builtin.copy_, run_underlying hu, Builtin.lenOf, Builtin.firstCells, sizeOf, typeInfo, hq, hi, ← hn, hl, hst]
theorem step_copy_run {w : World} {ops : Array Oper} {o : Oper} {a : Act} {Q : Exit → Act → World → Prop} (dT sT : TypeId) (d s : Operand) (ho : o.op = .call { callee := .builtin .copy, args := #[d, s], argTypes := #[dT, sT] }) (hg : o.guard = none) (v y : Value) (hs : a.eval d = v) (hx : a.eval s = y) {K : Act → World → Prop} {E : Prop} {r : Value} {w' : World} (hrun : (Builtin.copy_ #[dT, sT] o.type #[v, y]).run P w = .ok r w') (hK : K (a.put o.dst r) w') :
    if Region.wanted o (yielded ops a.tmps) = true then Oper.wp P o a w K Q else E := by
  have hw : Region.wanted o (yielded ops a.tmps) = true := by simp [Region.wanted, hg]
  rw [if_pos hw]
  unfold Oper.wp execOp
  simp only [ho, resolve, invoke, builtin, Sem.run_bind, Sem.run_pure, Result.andThen_ok, List.map_toArray, List.map_cons, List.map_nil, hs, hx, hrun]
  exact hK
theorem wpList_copy_run {w : World} {ops : Array Oper} {rest : List Oper} {o : Oper} {a : Act} {Q : Exit → Act → World → Prop} (dT sT : TypeId) (d s : Operand)
    (ho : o.op = .call { callee := .builtin .copy, args := #[d, s], argTypes := #[dT, sT] }) (hgd : o.guard = none) (v y : Value) (hs : a.eval d = v) (hx : a.eval s = y) (r : Value) (w' : World) (hrun : (Builtin.copy_ #[dT, sT] o.type #[v, y]).run P w = .ok r w')
    (h : wpList P ops Q rest (a.put o.dst r) w') : wpList P ops Q (o :: rest) a w := by
  refine wpList_plain hgd fun K hK => ?_
  unfold Oper.wp
  simp [execOp, ho, resolve, invoke, builtin, hs, hx, hrun, Result.andThen]
  exact hK _ _ h
theorem run_copy_noneK (w : World) (dT sT ty elem : TypeId) (k : Nat) (d a : Option Addr) (dLen dCap sLen sCap : Nat) (hu : P.underlying dT = some (.slice elem)) (hs : (P.info? elem).map (·.size) = some k) (hn : Nat.min sLen dLen = 0) :
    (Builtin.copy_ #[dT, sT] ty #[.slice d dLen dCap, .slice a sLen sCap]).run P w = .ok (goInt 0) w := by
  cases hq : P.info? elem with
  | none => simp [hq] at hs
  | some i =>
    have hl : ∀ (x : Addr), (loadCells x 0).run P w = .ok #[] w := fun x => by simpa using run_loadCells_list (P := P) w x [] (by simp)
    cases d <;> cases a <;> simp [Builtin.copy_, run_underlying hu, Builtin.lenOf, Builtin.firstCells, sizeOf, typeInfo, hq, hn, storeCells, hl]
end
theorem set_list {w : World} {p k : Nat} {L : List Value} {t : TypeId} {x : Value} (h : w.heap[p]? = some (.cells L.toArray t (0, 0))) : (w.setCell ⟨p, k, none⟩ x).heap[p]? = some (.cells (L.set k x).toArray t (0, 0)) := by
  have := set_at (x := x) (k := k) h
  rwa [List.setIfInBounds_toArray] at this
theorem ownsR_block {w : World} {g n : Nat} {e : TypeId} {k : Nat} {rs : List (List Value)} (h : w.heap[g]? = some (.cells rs.flatten.toArray e (0, 0))) (hw : Wide k rs) (hn : rs.length = n) (hl : n ≤ maxLen) : OwnsR e k w (.slice (some ⟨g, 0, none⟩) n n) rs := by
  subst hn
  refine ⟨hw.flat_length, .inr ⟨g, _, _, rfl, Nat.zero_le _, h, Nat.le_refl _, hl, ?_, ?_⟩⟩
  · rw [List.size_toArray, hw.flat_length]
  · exact List.take_of_length_le (by rw [List.toList_toArray, hw.flat_length]; exact Nat.le_refl _)
theorem own_apart {e e' : TypeId} {k k' : Nat} {w : World} {v v' : Value} {rs rs' : List (List Value)} (h : OwnsR e k w v rs) (h' : OwnsR e' k' w v' rs') (hne : e ≠ e') {g : Nat} (hg : v.ownBlock = some g) : v'.ownBlock ≠ some g := by
  intro hg'
  rcases h.2 with ⟨rfl, _⟩ | ⟨g1, cap, cur, rfl, _, hb, _⟩
  · simp [Value.ownBlock] at hg
  · rcases h'.2 with ⟨rfl, _⟩ | ⟨g2, cap', cur', rfl, _, hb', _⟩
    · simp [Value.ownBlock] at hg'
    · simp [Value.ownBlock] at hg hg'
      subst hg hg'
      rw [hb] at hb'
      injection hb' with hb'
      injection hb' with _ hb' _
      exact hne hb'
section
variable {w : World}
theorem ownsR_ne {e : TypeId} {k : Nat} {v : Value} {rs : List (List Value)} (h : OwnsR e k w v rs) {p : Nat} {cs : Array Value} {t : TypeId} {fz : Nat × Nat} (hp : w.heap[p]? = some (.cells cs t fz)) (ht : t ≠ e) : v.ownBlock ≠ some p := fun hg => by
  rcases h.2 with ⟨rfl, _⟩ | ⟨g1, cap, cur, rfl, _, hb, _⟩
  · simp [Value.ownBlock] at hg
  · simp [Value.ownBlock] at hg
    subst hg
    rw [hb] at hp
    injection hp with hp
    injection hp with _ hp _
    exact ht hp.symm
theorem box_ne {p p' : Nat} {cs cs' : Array Value} {t t' : TypeId} {fz fz' : Nat × Nat} (h : w.heap[p]? = some (.cells cs t fz)) (h' : w.heap[p']? = some (.cells cs' t' fz')) (ht : t ≠ t') : p ≠ p' := fun e => by
  subst e
  rw [h] at h'
  injection h' with h'
  injection h' with _ h' _
  exact ht h'
end
end Go.Proofs.Ytdadloaifebdiaa
/-
  Decode, and the document's.
-/
namespace Go.Proofs.Ytdadloaifebdiaa
open Go.RowKit
set_option linter.unusedVariables false
section
variable {w : World}
end
end Go.Proofs.Ytdadloaifebdiaa
/-
  Encode, and the document's Lay and Encode.
-/
namespace Go.Proofs.Ytdadloaifebdiaa
open Go.RowKit
set_option linter.unusedVariables false
section
variable {w : World}
set_option maxRecDepth 100000 in
set_option maxHeartbeats 1000000 in
theorem encode11 (x : Lt) (a : Option Addr) (c : Nat) (hx : ReadsJ w (.slice a x.args.length c) x.args) (hok : x.ok) :
    Calls Try.prog 68 #[Lv x a c] w fun e w' => TwoB w (encB x) (encE x) e w' := by
  have HX := Hid.mk hx
  clear hx
  have k0 := (Kept.refl [] w).alloc (.cells #[Sv x.fr, .int .u64 (x.ser : Int), .int .i64 x.kind, .slice a x.args.length c] 50)
  have HF : Hid (∀ W, Calls Try.prog 47 #[Lv x a c] W fun e w' => e = .returned (.bool x.formed) ∧ Kept [] W w') := fun W => formed13 x a c
  cases hf : x.formed with
  | false =>
    have hq : encB x = [] ∧ encE x = 1 := by simp [encB, encE, hf]
    rw [hq.1, hq.2]
    clear hq
    rw [hf] at HF
    clear hf
    go_enter Try.func68, Try.ntmps68
    go_wp2_with fail
    refine (HF.out _).mono ?_
    rintro e w1 ⟨rfl, k1⟩
    go_wp2_with fail
    go_ret2
    exact ⟨_, rfl, Owns.nil 5 _, k0.trans k1 (by simp), fresh_nil w 0⟩
  | true =>
    have hq : encB x = encL x ∧ encE x = 0 := by simp [encB, encE, hf]
    rw [hq.1, hq.2]
    clear hq
    have hf2 : x.fr.length ≤ 40 ∧ x.args.length ≤ 4 := by simpa [Lt.formed] using hf
    obtain ⟨hf3, hf4⟩ := hf2
    have hel := encL_length x
    rw [hf] at HF
    clear hf
    go_enter Try.func68, Try.ntmps68
    go_wp2_with fail
    obtain ⟨W0, e0, -, hz0, hb0⟩ := box1 w (.cells #[Sv x.fr, .int .u64 (x.ser : Int), .int .i64 x.kind, .slice a x.args.length c] 50)
    rw [e0] at k0
    rw [e0]
    clear e0
    refine (HF.out _).mono ?_
    rintro e w1 ⟨rfl, k1⟩
    go_wp2_with fail
    refine (newW _).mono ?_
    rintro e w2 ⟨p, rfl, hW2, k2, hp2⟩
    have hb2 := k2.keeps (k1.keeps hb0 (by simp)) (by simp)
    have k02 := (k0.trans k1 (by simp)).trans k2 (by simp)
    obtain ⟨c0, c1, c2, c3⟩ := cells4 hb2
    have hsz := k1.size
    go_wp2_with fail
    refine (lay27 p _ [] x a c hW2 (HX.out.kept k02 (by simp)) (fun hne g hg hm => ?_) hok (by simp; omega)).mono ?_
    · have := HX.out.ltg hne hg
      have := k0.size
      rw [foot_nil] at hm
      simp at hm
      omega
    rintro e w3 ⟨rfl, v3, hW3, k3, n3⟩
    rw [List.nil_append] at hW3
    rw [foot_nil] at k3
    go_wp2_with fail
    refine (wbytes_any p _ _ _ hW3 (by omega)).mono ?_
    rintro e w4 ⟨v4, rfl, hO4, k4, hF4⟩
    go_wp2_with fail
    go_ret2
    have k23 : Kept [] w w3 := k02.trans k3 (by simp; omega)
    refine ⟨v4, rfl, hO4, k23.trans k4 (by simp), fun g hg => ?_⟩
    have := hF4 g hg
    have := k23.size
    omega
end
end Go.Proofs.Ytdadloaifebdiaa
/-
  An outbox in memory: a block of an owner, 64 targets, 32 letters on their way, and how many there are of each.
-/
namespace Go.Proofs.Ytdadloaifebdiaa
set_option maxRecDepth 100000
open Go.RowKit
set_option linter.unusedVariables false
/-- A number as a cell. -/
abbrev Uv (n : Nat) : Value := .int .u64 (n : Int)
/-- A letter on its way, and where its Args lie. -/
structure Yq where
  to : List UInt8
  q : Lq
instance : Inhabited Yq := ⟨⟨[], default⟩⟩
def ot (y : Yq) : Ot := ⟨y.to, y.q.x⟩
/-- Its cells. -/
def cellsY (y : Yq) : List Value := [Sv y.to, Sv y.q.x.fr, .int .u64 (y.q.x.ser : Int), .int .i64 y.q.x.kind, y.q.sl]
/-- A letter on its way, as a value. -/
abbrev Yv (to : List UInt8) (x : Lt) (a : Option Addr) (c : Nat) : Value := .agg #[Sv to, Sv x.fr, .int .u64 (x.ser : Int), .int .i64 x.kind, .slice a x.args.length c]
def CY (l : List Yq) : List (List Value) := l.map cellsY
theorem CY_length (l : List Yq) : (CY l).length = l.length := by simp [CY]
theorem CY_append (a b : List Yq) : CY (a ++ b) = CY a ++ CY b := by simp [CY]
theorem CY_wide (l : List Yq) : Wide 5 (CY l) := fun r hr => by
  obtain ⟨x, _, rfl⟩ := List.mem_map.1 hr
  refine ⟨rfl, fun v hv => ?_⟩
  simp [cellsY] at hv
  rcases hv with rfl | rfl | rfl | rfl | rfl <;> rfl
/-- A target's cells. -/
def cellsK (y : La) : List Value := [Sv y.k, Uv y.s]
def CK (l : List La) : List (List Value) := l.map cellsK
theorem CK_length (l : List La) : (CK l).length = l.length := by simp [CK]
theorem CK_append (a b : List La) : CK (a ++ b) = CK a ++ CK b := by simp [CK]
theorem CK_wide (l : List La) : Wide 2 (CK l) := fun r hr => by
  obtain ⟨x, _, rfl⟩ := List.mem_map.1 hr
  refine ⟨rfl, fun v hv => ?_⟩
  simp [cellsK] at hv
  rcases hv with rfl | rfl <;> rfl
/-- What the 291 cells say. -/
structure CellsO (cs : List Value) (own : List UInt8) (K : List La) (qs : List Yq) : Prop where
  len : cs.length = 291
  own : cs[0]? = some (Sv own)
  ks : ∀ (j : Nat) (y : La), K[j]? = some y → ∀ (i : Nat) (v : Value), (cellsK y)[i]? = some v → cs[1 + j * 2 + i]? = some v
  kn : cs[129]? = some (.int .i64 (K.length : Int))
  ys : ∀ (j : Nat) (y : Yq), qs[j]? = some y → ∀ (i : Nat) (v : Value), (cellsY y)[i]? = some v → cs[130 + j * 5 + i]? = some v
  yn : cs[290]? = some (.int .i64 (qs.length : Int))
  one : ∀ v ∈ cs, v.oneCell' = true
theorem set_one {cs : List Value} {i : Nat} {x : Value} (h : ∀ v ∈ cs, v.oneCell' = true) (hx : x.oneCell' = true) : ∀ v ∈ cs.set i x, v.oneCell' = true := fun v hv => by
  rcases List.mem_or_eq_of_mem_set hv with h1 | h1
  · exact h v h1
  · subst h1; exact hx
theorem wide_one {k : Nat} {rs : List (List Value)} (h : Wide k rs) : ∀ v ∈ rs.flatten, v.oneCell' = true := fun v hv => by
  obtain ⟨r, hr, hv⟩ := List.mem_flatten.1 hv
  exact (h r hr).2 v hv
theorem over_one {cs L : List Value} {m n : Nat} (h : ∀ v ∈ cs, v.oneCell' = true) (hL : ∀ v ∈ L, v.oneCell' = true) : ∀ v ∈ cs.take m ++ L ++ cs.drop n, v.oneCell' = true := fun v hv => by
  rcases List.mem_append.1 hv with hv | hv
  · rcases List.mem_append.1 hv with hv | hv
    · exact h v (List.mem_of_mem_take hv)
    · exact hL v hv
  · exact h v (List.mem_of_mem_drop hv)
theorem cellsK_lt {y : La} {i : Nat} {v : Value} (h : (cellsK y)[i]? = some v) : i < 2 := (List.getElem?_eq_some_iff.1 h).1
theorem cellsY_lt {y : Yq} {i : Nat} {v : Value} (h : (cellsY y)[i]? = some v) : i < 5 := (List.getElem?_eq_some_iff.1 h).1
theorem get_lt {α : Type} {l : List α} {j : Nat} {y : α} (h : l[j]? = some y) : j < l.length := (List.getElem?_eq_some_iff.1 h).1
/-- The outbox at block p: its owner, its targets, its letters. -/
structure IsO (w : World) (p : Nat) (own : List UInt8) (K : List La) (qs : List Yq) : Prop where
  box : ∃ cs, w.heap[p]? = some (.cells cs.toArray 108 (0, 0)) ∧ CellsO cs own K qs
  kn : K.length ≤ 64
  ln : qs.length ≤ 32
  args : ∀ y ∈ qs, OwnsJ w y.q.sl y.q.x.args
section
variable {w w' : World} {p : Nat} {own : List UInt8} {K : List La} {qs : List Yq}
theorem ownsJ_type {v : Value} {l : List Int} (h : OwnsJ w v l) {g : Nat} (hg : v.ownBlock = some g) : ∃ cs, w.heap[g]? = some (.cells cs 2 (0, 0)) := by
  rcases h.2 with ⟨rfl, _⟩ | ⟨g1, cap, cur, rfl, _, hb, _⟩
  · simp [Value.ownBlock] at hg
  · simp [Value.ownBlock] at hg
    subst hg
    exact ⟨_, hb⟩
theorem ownsJ_ne {v : Value} {l : List Int} (h : OwnsJ w v l) {p : Nat} {cs : Array Value} {t : TypeId} {fz : Nat × Nat} (hp : w.heap[p]? = some (.cells cs t fz)) (ht : t ≠ 2) : v.ownBlock ≠ some p := fun hg => by
  obtain ⟨cs', h'⟩ := ownsJ_type h hg
  rw [h'] at hp
  injection hp with hp
  injection hp with _ hp _
  exact ht hp.symm
theorem IsO.lt (h : IsO w p own K qs) : p < w.heap.size := by obtain ⟨cs, hb, _⟩ := h.box; exact lt_of_block hb
theorem IsO.kept {S : List Nat} (h : IsO w p own K qs) (k : Kept S w w') (hp : p ∉ S) (hq : ∀ y ∈ qs, ∀ g, y.q.sl.ownBlock = some g → g ∉ S) : IsO w' p own K qs := by
  obtain ⟨cs, hb, hc⟩ := h.box
  exact ⟨⟨cs, k.keeps hb hp, hc⟩, h.kn, h.ln, fun y hm => (h.args y hm).kept k (hq y hm)⟩
theorem IsO.kept0 (h : IsO w p own K qs) (k : Kept [] w w') : IsO w' p own K qs := h.kept k (by simp) (by simp)
theorem IsO.cell {cs : List Value} {t : TypeId} (hb : w.heap[p]? = some (.cells cs.toArray t (0, 0))) {i : Nat} {v : Value} (hi : cs[i]? = some v) : w.cell? ⟨p, i, none⟩ = some v := by
  unfold World.cell?
  rw [hb]
  simpa using hi
theorem IsO.free (h : IsO w p own K qs) (i : Nat) : w.frozen? ⟨p, i, none⟩ = false := by
  obtain ⟨cs, hb, _⟩ := h.box
  simp [World.frozen?, hb]
theorem IsO.owner (h : IsO w p own K qs) : w.cell? ⟨p, 0, none⟩ = some (Sv own) := by
  obtain ⟨cs, hb, hc⟩ := h.box
  exact IsO.cell hb hc.own
theorem IsO.known (h : IsO w p own K qs) : w.cell? ⟨p, 129, none⟩ = some (.int .i64 (K.length : Int)) := by
  obtain ⟨cs, hb, hc⟩ := h.box
  exact IsO.cell hb hc.kn
theorem IsO.count (h : IsO w p own K qs) : w.cell? ⟨p, 290, none⟩ = some (.int .i64 (qs.length : Int)) := by
  obtain ⟨cs, hb, hc⟩ := h.box
  exact IsO.cell hb hc.yn
theorem IsO.key (h : IsO w p own K qs) {j : Nat} {y : La} (hj : K[j]? = some y) : w.cell? ⟨p, 1 + j * 2, none⟩ = some (Sv y.k) ∧ w.cell? ⟨p, 1 + j * 2 + 1, none⟩ = some (Uv y.s) := by
  obtain ⟨cs, hb, hc⟩ := h.box
  exact ⟨IsO.cell hb (hc.ks j y hj 0 _ rfl), IsO.cell hb (hc.ks j y hj 1 _ rfl)⟩
theorem IsO.at (h : IsO w p own K qs) {j : Nat} {y : Yq} (hj : qs[j]? = some y) : w.cell? ⟨p, 130 + j * 5, none⟩ = some (Sv y.to) ∧ w.cell? ⟨p, 130 + j * 5 + 1, none⟩ = some (Sv y.q.x.fr) ∧ w.cell? ⟨p, 130 + j * 5 + 2, none⟩ = some (.int .u64 (y.q.x.ser : Int)) ∧ w.cell? ⟨p, 130 + j * 5 + 3, none⟩ = some (.int .i64 y.q.x.kind) ∧ w.cell? ⟨p, 130 + j * 5 + 4, none⟩ = some y.q.sl := by
  obtain ⟨cs, hb, hc⟩ := h.box
  exact ⟨IsO.cell hb (hc.ys j y hj 0 _ rfl), IsO.cell hb (hc.ys j y hj 1 _ rfl), IsO.cell hb (hc.ys j y hj 2 _ rfl), IsO.cell hb (hc.ys j y hj 3 _ rfl), IsO.cell hb (hc.ys j y hj 4 _ rfl)⟩
theorem IsO.any (h : IsO w p own K qs) {i : Nat} (hi : i < 291) : ∃ v, w.cell? ⟨p, i, none⟩ = some v := by
  obtain ⟨cs, hb, hc⟩ := h.box
  exact ⟨_, IsO.cell hb (List.getElem?_eq_getElem (by rw [hc.len]; exact hi))⟩
/-- Its targets and its letters as rows. -/
theorem IsO.rowK (h : IsO w p own K qs) : ReadsR 2 w (.slice (some ⟨p, 1, none⟩) K.length 64) (CK K) := by
  obtain ⟨cs, hb, hc⟩ := h.box
  refine ⟨some ⟨p, 1, none⟩, 64, by rw [CK_length], by rw [CK_length]; exact h.kn, by unfold maxLen; omega, by simp, fun _ => ⟨p, 1, rfl, fun j r hr i x hx => ?_⟩⟩
  rw [CK, List.getElem?_map, Option.map_eq_some_iff] at hr
  obtain ⟨q, hq, rfl⟩ := hr
  exact IsO.cell hb (hc.ks j q hq i x hx)
theorem IsO.rowY (h : IsO w p own K qs) : ReadsR 5 w (.slice (some ⟨p, 130, none⟩) qs.length 32) (CY qs) := by
  obtain ⟨cs, hb, hc⟩ := h.box
  refine ⟨some ⟨p, 130, none⟩, 32, by rw [CY_length], by rw [CY_length]; exact h.ln, by unfold maxLen; omega, by simp, fun _ => ⟨p, 130, rfl, fun j r hr i x hx => ?_⟩⟩
  rw [CY, List.getElem?_map, Option.map_eq_some_iff] at hr
  obtain ⟨q, hq, rfl⟩ := hr
  exact IsO.cell hb (hc.ys j q hq i x hx)
end
/-- The cells of a new one. -/
def zeroO (own : List UInt8) : List Value := Sv own :: ((CK (List.replicate 64 ⟨[], 0⟩)).flatten ++ (.int .i64 0 :: ((CY (List.replicate 32 ⟨[], ⟨⟨[], 0, 0, []⟩, none, 0⟩⟩)).flatten ++ [.int .i64 0])))
theorem cellsO_new (own : List UInt8) : CellsO (zeroO own) own [] [] := by
  refine ⟨by simp [zeroO, CK, CY, cellsK, cellsY], rfl, by simp, ?_, by simp, ?_, fun v hv => ?_⟩
  · rfl
  · rfl
  · unfold zeroO at hv
    rcases List.mem_cons.1 hv with rfl | hv
    · rfl
    · rcases List.mem_append.1 hv with hv | hv
      · exact wide_one (CK_wide _) v hv
      · rcases List.mem_cons.1 hv with rfl | hv
        · rfl
        · rcases List.mem_append.1 hv with hv | hv
          · exact wide_one (CY_wide _) v hv
          · simp at hv; subst hv; rfl
/-- Cells that are stored elsewhere. -/
theorem CellsO.setK {cs : List Value} {own : List UInt8} {K : List La} {qs : List Yq} (h : CellsO cs own K qs) (hK : K.length ≤ 64) (hq : qs.length ≤ 32) {j : Nat} {y : La} (hj : K[j]? = some y) (s : Nat) : CellsO (cs.set (1 + j * 2 + 1) (Uv s)) own (K.set j ⟨y.k, s⟩) qs := by
  have hlt := get_lt hj
  refine ⟨by rw [List.length_set]; exact h.len, by rw [List.getElem?_set_ne (by omega)]; exact h.own, fun i z hz m v hv => ?_, by rw [List.getElem?_set_ne (by omega), List.length_set]; exact h.kn, fun i z hz m v hv => ?_, by rw [List.getElem?_set_ne (by omega)]; exact h.yn, set_one h.one rfl⟩
  · have hm := cellsK_lt hv
    by_cases hij : j = i
    · subst hij
      rw [List.getElem?_set_self hlt] at hz
      injection hz with hz
      subst hz
      match m, hm with
      | 0, _ =>
        rw [List.getElem?_set_ne (by omega)]
        exact h.ks j y hj 0 v hv
      | 1, _ =>
        rw [List.getElem?_set_self (by have := h.len; omega)]
        exact hv
    · rw [List.getElem?_set_ne hij] at hz
      rw [List.getElem?_set_ne (by omega)]
      exact h.ks i z hz m v hv
  · rw [List.getElem?_set_ne (by omega)]
    exact h.ys i z hz m v hv
end Go.Proofs.Ytdadloaifebdiaa
