import Derived.Deep.RegionHeld3
import Derived.Deep.RegionLaw
import Derived.Deep.DrawnRows
import Derived.Test.YtpodoiichpnpjaaDoorQ03
import Derived.Test.YtpodoiichpnpjaaDoorQ06
/-
  Theirs: a program laid anew.
-/
namespace Go.Proofs.YtpodoiichpnpjaaDoor
open Go.RowKit
set_option maxRecDepth 100000
set_option linter.unusedVariables false
theorem Out.all {T e : TypeId} {k b : Nat} {z : Value} {w wr : World} {u : Value} {rs : List (List Value)} (R : RowT T e k b z) (h : Out e k w wr u rs) (x : Value) (m : List (List Value)) (hm : Wide k m) (hr : ReadsR k wr x m) (hl : rs.length + m.length ≤ 1000000) (ty : TypeId) :
    ∃ ad c w2, (Builtin.append_ #[T, T] ty #[u, x]).run Tryd.prog wr = .ok (.slice ad (rs.length + m.length) c) w2 ∧ Out e k w w2 (.slice ad (rs.length + m.length) c) (rs ++ m) := by
  obtain ⟨ad, c, w2, hrun, hO, hg, hN⟩ := run_appendR R wr ty u rs h.own x m hm hr hl
  have k2 : Kept u.ownBlock.toList wr w2 := ((Kept.refl [] wr).mono (by simp)).grown hg (fun x hx => .inl (by rw [Option.mem_toList]; exact hx))
  refine ⟨ad, c, w2, hrun, hO, fun g hg => ?_, h.kept.trans k2 (fun x hx => .inr (h.new x (by simpa using hx)))⟩
  rcases hN g hg with h3 | h3
  · exact h.new g h3
  · exact Nat.le_trans h.kept.size h3
section
variable {w : World}
set_option maxHeartbeats 4000000 in
theorem theirs11 {v u : Value} {p : Pg} (hP : IsP w v u p) (hn : p.names.length ≤ 1000) (hc : p.code.length ≤ 1000) : Calls Tryd.prog 12 #[.agg #[v, u]] w fun e w' => ∃ v' u', e = .returned (.agg #[v', u']) ∧ IsP w' v' u' p ∧ Kept [] w w' := by
  obtain ⟨a, c, b, d, rfl, rfl, hl1, hl2⟩ := hP.form
  obtain ⟨W0, e0, k0, hz0, hb0, hb1⟩ := box2 w (.cells #[.slice a p.names.length c, .slice b p.code.length d] 25) (.cells #[.slice none 0 0, .slice none 0 0] 43)
  obtain ⟨y0, y1⟩ := cells2 hb0
  obtain ⟨W1, e1, k1, hz1, hbn⟩ := box1 W0 (.cells #[] 9)
  have hown : OwnsR 9 1 W1 (.slice (some ⟨W0.heap.size, 0, none⟩) 0 0) [] := ownsR_block (rs := []) hbn (fun r hr => by simp at hr) rfl (by unfold maxLen; omega)
  have hout : Out 9 1 W0 W1 (.slice (some ⟨W0.heap.size, 0, none⟩) 0 0) [] := ⟨hown, fun g hg => by simp [Value.ownBlock] at hg; omega, k1⟩
  obtain ⟨ad, cc, W2, hrun, hO2⟩ := hout.all rt22 (.slice a p.names.length c) (rowN p.names) (wideN _) (hP.names.keep (k0.then k1)) (by rw [rowN_length]; simp; omega) 22
  rw [List.nil_append, rowN_length] at hO2
  have hl0 : ([] : List (List Value)).length = 0 := rfl
  rw [hl0, rowN_length] at hrun
  rw [hl0] at hO2
  rw [Nat.zero_add] at hrun hO2
  have hb0' := hO2.kept.keeps hb0 (by simp)
  obtain ⟨y2, y3⟩ := cells2 hb0'
  obtain ⟨y4, y5⟩ := cells2 (k1.keeps hb0 (by simp))
  obtain ⟨W3, e3, k3, hz3, hb3⟩ := box1 W2 (.cells #[.slice ad p.names.length cc, .slice none 0 0] 43)
  have HPB : Hid (PB 43 60 W0 W3 W2.heap.size (.slice ad p.names.length cc) (.slice none 0 0) ⟨p.names, []⟩) := ⟨hb3, hO2.keep k3, Out.nil (hO2.kept.then k3), hO2.kept.size⟩
  obtain ⟨y6, y7⟩ := cells2 (k3.keeps hb0' (by simp))
  have HE3 := Hid.mk e3
  have hlt2 : w.heap.size < W2.heap.size := lt_of_block hb0'
  clear e3
  have HB0 := Hid.mk hb0
  have HB1 := Hid.mk hb1
  have HK0 := Hid.mk k0
  have HP := Hid.mk (hP.keep k0)
  clear hown hout hO2 hb0' k3 hz3 hb3 k1 hz1 hbn hb0 hb1 k0 hz0 hP
  go_enter Tryd.func12, Tryd.ntmps12
  go_wp2_with (at_builtin; refine wpList_append_run 22 22 (.tmp 5) (.tmp 7) rfl (by rfl) _ _ rfl rfl _ _ hrun ?_)
  rw [HE3.out]
  generalize hgg : W2.heap.size = g at *
  clear hgg hrun
  have HG2 : Hid (∀ W W5, Kept [] W0 W → Kept [w.heap.size + 1] W W5 → Kept [] w W5) := fun W W5 k k5 => (HK0.out.then k).trans k5 (fun y hy => by simp at hy; subst hy; exact .inr (by omega))
  have hg2 : w.heap.size + 1 < W0.heap.size := lt_of_block HB1.out
  have HGG := Hid.mk hg2
  clear hg2
  generalize w.heap.size = g1 at *
  go_loopw [13] (fun i wr => ∃ (j : Nat) (u : Value), i = .int .i64 (j : Int) ∧ j ≤ p.code.length ∧ Hid (PB 43 60 W0 wr g (.slice ad p.names.length cc) u ⟨p.names, p.code.take j⟩)) (fun i _ => p.code.length - (intOf i).toNat)
  case atStart => exact ⟨0, _, rfl, by omega, by simpa using HPB⟩
  case round =>
    obtain ⟨j, u, rfl, hj, HB⟩ := hrel
    have HKr := Hid.mk HB.out.kept
    obtain ⟨va, vc, ua, uc, -, hu⟩ := HB.out.forms
    have hlen : (p.code.take j).length = j := by rw [List.length_take]; omega
    dsimp only at hu
    rw [hlen] at hu
    subst hu
    obtain ⟨x0, x1⟩ := cells2 (HKr.out.keeps HB0.out (by simp))
    by_cases hlt : j < p.code.length
    · obtain ⟨b1, o1, rfl, hc1, hc2⟩ := code_at (HP.out.code.keep HKr.out) hlt
      have hjI : (j : Int) < (p.code.length : Int) := by omega
      have hj0 : (0 : Int) ≤ (j : Int) := by omega
      have HD := HB.out.keep (Kept.refl [] wr).drew
      obtain ⟨ad2, c2, w2, hrun, r0, r1, hPB⟩ := HD.addCode rt31 (by decide) (by decide) (by decide) (by dsimp only; omega) p.code[j] 60 (0, 0) 41
      dsimp only at hrun r0 r1 hPB
      rw [hlen] at hrun hPB
      have e9 : p.code.take (j + 1) = p.code.take j ++ [p.code[j]] := by rw [List.take_add_one]; simp [hlt]
      rw [← e9] at hPB
      have HN := Hid.mk hPB
      have hrun' : (Builtin.append_ #[41, 41] 41 #[.slice ua j uc, .slice (some ⟨wr.heap.size, 0, none⟩) 1 1]).run Tryd.prog (wr.alloc (.cells #[.int .i64 p.code[j].op, .int .i64 p.code[j].arg] 60)).drew = .ok (.slice ad2 (j + 1) c2) w2 := hrun
      have S0 : wr.drew.cell? ⟨g, 1, none⟩ = some (.slice ua j uc) := HD.c1
      have S1 : (wr.alloc (.cells #[.int .i64 p.code[j].op, .int .i64 p.code[j].arg] 60)).drew.cell? ⟨g, 1, none⟩ = some (.slice ua j uc) := (((Kept.refl [] wr).alloc (.cells #[.int .i64 p.code[j].op, .int .i64 p.code[j].arg] 60)).drew).cell_eq HB.out.c1
      have S2 : wr.drew.cell? ⟨g1, 1, none⟩ = some (.slice (some ⟨b1, o1, none⟩) p.code.length d) := x1
      have S3 : wr.drew.cell? ⟨b1, o1 + j * 2, none⟩ = some (.int .i64 p.code[j].op) := hc1
      have S4 : wr.drew.cell? ⟨b1, o1 + j * 2 + 1, none⟩ = some (.int .i64 p.code[j].arg) := hc2
      clear hPB HD e9 hrun hlen
      generalize p.code[j].op = q1 at *
      generalize p.code[j].arg = q2 at *
      go_wp2_with fail
      go_region_law ((refine step_append_run 41 (.tmp 17) (.tmp 23) (by rfl) (by rfl) _ _ (by rfl) (by rfl) hrun' ?_))
      all_goals
        generalize w2.setCell ⟨g, 1, none⟩ (.slice ad2 (j + 1) c2) = W7 at *
        go_wp2_with fail
        go_roundw
        case rel => exact ⟨j + 1, _, by go_num, by omega, HN⟩
        case measure => simp [intOf]; omega
    · have hje : ¬ (j : Int) < (p.code.length : Int) := by omega
      obtain rfl : j = p.code.length := by omega
      rw [List.take_length] at HB
      have z0 := HB.out.c0
      have z1 := HB.out.c1
      have hbr := HKr.out.keeps HB1.out (by simp)
      have HBr := Hid.mk hbr
      obtain ⟨f0, f1⟩ := free2 hbr
      obtain ⟨d0, d1⟩ := cells2 hbr
      clear hbr hlen
      go_wp2_with fail
      obtain ⟨W5, e5, k5, hb5⟩ := put2 HBr.out (.slice ad p.names.length cc) (.slice ua p.code.length uc)
      rw [e5]
      clear e5
      refine bodyPost_ret (results_cell_row (p := 2) (ty := 43) rfl _ _ (g1 + 1) 43 _ (0, 0) _ rfl hb5 Tryd.underlying43 rfl (by kernel_rfl)) rfl ?_
      have hng : ∀ g', W0.heap.size ≤ g' → g' ∉ [g1 + 1] := fun g' h1 h2 => by have := HGG.out; simp at h2; omega
      exact ⟨_, _, rfl, ⟨HB.out.isP.names.kept k5 (fun g' h => hng g' (HB.out.names.new g' h)), HB.out.isP.code.kept k5 (fun g' h => hng g' (HB.out.code.new g' h))⟩, HG2.out _ _ HKr.out k5⟩
end
end Go.Proofs.YtpodoiichpnpjaaDoor
/-
  Journals, without memory: registers, events, a journal's bytes.
-/
namespace Go.Proofs.YtpodoiichpnpjaaDoor
set_option linter.unusedVariables false
/-- An event: a register is set. -/
structure Ev where
  r : Nat
  v : Int
instance : Inhabited Ev := ⟨⟨0, 0⟩⟩
/-- A journal. -/
structure Jn where
  base : List Int
  ev : List Ev
  ver : Nat
/-- An event is done. -/
def doE (b : List Int) (e : Ev) : List Int := b.set e.r e.v
/-- All are, in order. -/
def doA (b : List Int) (l : List Ev) : List Int := l.foldl doE b
def stJ (j : Jn) : List Int := doA j.base j.ev
def newJ : Jn := ⟨List.replicate 8 0, [], 0⟩
/-- The first event is done to the base, and gone. -/
def dropJ (j : Jn) : Jn := match j.ev with
  | [] => j
  | e :: t => ⟨doE j.base e, t, j.ver⟩
/-- One event more. -/
def addE (j : Jn) (e : Ev) : Jn := if 16 < j.ev.length + 1 then dropJ ⟨j.base, j.ev ++ [e], j.ver + 1⟩ else ⟨j.base, j.ev ++ [e], j.ver + 1⟩
def addA (j : Jn) (l : List Ev) : Jn := l.foldl addE j
def foldJ (j : Jn) : Jn := ⟨stJ j, [], j.ver⟩
theorem doA_append (b : List Int) (l m : List Ev) : doA b (l ++ m) = doA (doA b l) m := by simp [doA]
theorem doA_length (l : List Ev) : ∀ b, (doA b l).length = b.length := by
  induction l with
  | nil => intro b; rfl
  | cons e l ih => intro b; show (doA (doE b e) l).length = _; rw [ih]; simp [doE]
theorem st_drop (j : Jn) : stJ (dropJ j) = stJ j := by
  obtain ⟨b, ev, v⟩ := j
  cases ev with
  | nil => rfl
  | cons e t => rfl
/-- The registers are what was set last. -/
theorem st_add (j : Jn) (e : Ev) : stJ (addE j e) = doE (stJ j) e := by
  unfold addE
  have h : stJ ⟨j.base, j.ev ++ [e], j.ver + 1⟩ = doE (stJ j) e := by
    unfold stJ
    dsimp only
    rw [doA_append]
    rfl
  split
  · rw [st_drop, h]
  · exact h
theorem st_addA (l : List Ev) : ∀ j, stJ (addA j l) = doA (stJ j) l := by
  induction l with
  | nil => intro j; rfl
  | cons e l ih =>
    intro j
    show stJ (addA (addE j e) l) = doA (doE (stJ j) e) l
    rw [ih, st_add]
theorem st_fold (j : Jn) : stJ (foldJ j) = stJ j := rfl
theorem ver_add (j : Jn) (e : Ev) : (addE j e).ver = j.ver + 1 := by
  unfold addE dropJ
  dsimp only
  split
  · split <;> rfl
  · rfl
theorem ver_addA (l : List Ev) : ∀ j, (addA j l).ver = j.ver + l.length := by
  induction l with
  | nil => intro j; rfl
  | cons e l ih =>
    intro j
    show (addA (addE j e) l).ver = _
    rw [ih, ver_add, List.length_cons]
    omega
theorem addA_append (j : Jn) (l m : List Ev) : addA j (l ++ m) = addA (addA j l) m := by simp [addA]
/-- A journal may be. -/
structure GoodJ (j : Jn) : Prop where
  b8 : j.base.length = 8
  b64 : ∀ z ∈ j.base, I64 z
  e16 : j.ev.length ≤ 16
  ev : ∀ e ∈ j.ev, e.r ≤ 7 ∧ I64 e.v
  low : j.ev.length ≤ j.ver
  v64 : U64 j.ver
theorem GoodJ.new : GoodJ newJ := ⟨rfl, fun z hz => by rw [List.eq_of_mem_replicate hz]; unfold I64; omega, by simp [newJ], by simp [newJ], by simp [newJ], by unfold U64; simp [newJ]⟩
theorem doE_I64 {b : List Int} {e : Ev} (h : ∀ z ∈ b, I64 z) (he : I64 e.v) : ∀ z ∈ doE b e, I64 z := fun z hz => by
  rcases List.mem_or_eq_of_mem_set hz with h1 | h1
  · exact h z h1
  · rw [h1]; exact he
theorem doA_I64 (l : List Ev) : ∀ b, (∀ z ∈ b, I64 z) → (∀ e ∈ l, I64 e.v) → ∀ z ∈ doA b l, I64 z := by
  induction l with
  | nil => intro b h _; exact h
  | cons e l ih => intro b h he; exact ih (doE b e) (doE_I64 h (he e (by simp))) fun x hx => he x (by simp [hx])
theorem GoodJ.add {j : Jn} (h : GoodJ j) {e : Ev} (he : e.r ≤ 7 ∧ I64 e.v) (hv : U64 (j.ver + 1)) : GoodJ (addE j e) := by
  obtain ⟨b, ev, v⟩ := j
  have h1 := h.e16
  have h2 := h.low
  dsimp only at h1 h2 hv
  have hev : ∀ x ∈ ev ++ [e], x.r ≤ 7 ∧ I64 x.v := fun x hx => by
    rcases List.mem_append.1 hx with hx | hx
    · exact h.ev x hx
    · simp at hx; subst hx; exact he
  unfold addE
  dsimp only
  split
  · cases ev with
    | nil => simp at *
    | cons x t =>
      have hx := hev x (by simp)
      refine ⟨?_, ?_, ?_, fun y hy => hev y (List.mem_cons_of_mem x (show y ∈ t ++ [e] from hy)), ?_, hv⟩
      · show (doE b x).length = 8
        have := h.b8
        dsimp only at this
        simp [doE, this]
      · exact doE_I64 h.b64 hx.2
      · show (t ++ [e]).length ≤ 16
        simp at h1 ⊢
        omega
      · show (t ++ [e]).length ≤ v + 1
        simp at h2 ⊢
        omega
  · refine ⟨h.b8, h.b64, ?_, hev, ?_, hv⟩
    · show (ev ++ [e]).length ≤ 16
      simp
      omega
    · show (ev ++ [e]).length ≤ v + 1
      simp
      omega
theorem GoodJ.addA {l : List Ev} : ∀ {j : Jn}, GoodJ j → (∀ e ∈ l, e.r ≤ 7 ∧ I64 e.v) → U64 (j.ver + l.length) → GoodJ (addA j l) := by
  induction l with
  | nil => intro j h _ _; exact h
  | cons e l ih =>
    intro j h he hv
    rw [List.length_cons] at hv
    refine ih (h.add (he e (by simp)) (by unfold U64 at *; omega)) (fun x hx => he x (by simp [hx])) ?_
    rw [ver_add]
    unfold U64 at *
    omega
theorem GoodJ.fold {j : Jn} (h : GoodJ j) : GoodJ (foldJ j) :=
  ⟨by show (doA j.base j.ev).length = 8; rw [doA_length]; exact h.b8, doA_I64 j.ev j.base h.b64 fun e he => (h.ev e he).2, by simp [foldJ], by simp [foldJ], by simp [foldJ], h.v64⟩
/-- Integers' bytes. -/
def encI (l : List Int) : List UInt8 := l.flatMap fun z => enc (fold z)
def encV (l : List Ev) : List UInt8 := l.flatMap fun e => enc e.r ++ enc (fold e.v)
/-- A journal's bytes. -/
def encJn (j : Jn) : List UInt8 := enc j.ver ++ (encI j.base ++ (enc j.ev.length ++ encV j.ev))
/-- n integers. -/
def rint : Nat → List UInt8 → Option (List Int × List UInt8)
  | 0, l => some ([], l)
  | n + 1, l => (int l).bind fun a => (rint n a.2).map fun b => (a.1 :: b.1, b.2)
/-- n events. -/
def revs : Nat → List Ev → List UInt8 → Option (List Ev × List UInt8)
  | 0, E, l => some (E, l)
  | n + 1, E, l => (num l).bind fun a => (int a.2).bind fun b => if 7 < a.1 then none else revs n (E ++ [⟨a.1, b.1⟩]) b.2
/-- The journal that bytes are. -/
def decJn (l : List UInt8) : Option Jn := (num l).bind fun a => (rint 8 a.2).bind fun b => (num b.2).bind fun c => if 16 < c.1 ∨ a.1 < c.1 then none else (revs c.1 [] c.2).bind fun d => if d.2 = [] then some ⟨b.1, d.1, a.1⟩ else none
theorem rint_back (a : List Int) : ∀ r, (∀ z ∈ a, I64 z) → rint a.length (encI a ++ r) = some (a, r) := by
  induction a with
  | nil => intro r _; rfl
  | cons z a ih =>
    intro r h
    have e : encI (z :: a) ++ r = enc (fold z) ++ (encI a ++ r) := by simp [encI]
    rw [List.length_cons, rint, e, int_back z (h z (by simp))]
    dsimp only [Option.bind_some]
    rw [ih r (fun y hy => h y (by simp [hy]))]
    rfl
theorem rint_fwd (n : Nat) : ∀ l a r, rint n l = some (a, r) → a.length = n ∧ l = encI a ++ r ∧ ∀ z ∈ a, I64 z := by
  induction n with
  | zero =>
    intro l a r h
    simp only [rint, Option.some.injEq, Prod.mk.injEq] at h
    obtain ⟨rfl, rfl⟩ := h
    exact ⟨rfl, rfl, by simp⟩
  | succ n ih =>
    intro l a r h
    rw [rint] at h
    cases h1 : int l with
    | none => rw [h1] at h; cases h
    | some x =>
      obtain ⟨z, l1⟩ := x
      rw [h1] at h
      dsimp only [Option.bind_some] at h
      cases h2 : rint n l1 with
      | none => rw [h2] at h; cases h
      | some y =>
        obtain ⟨b, q⟩ := y
        rw [h2] at h
        simp only [Option.map_some, Option.some.injEq, Prod.mk.injEq] at h
        obtain ⟨rfl, rfl⟩ := h
        obtain ⟨i1, i2, i3⟩ := ih l1 b q h2
        refine ⟨by simp [i1], ?_, fun w hw => ?_⟩
        · rw [int_fwd h1, i2]; simp [encI]
        · rcases List.mem_cons.1 hw with rfl | hw
          · exact (int_some h1).2.2
          · exact i3 w hw
theorem revs_back (X : List Ev) : ∀ P r, (∀ e ∈ X, e.r ≤ 7 ∧ I64 e.v) → revs X.length P (encV X ++ r) = some (P ++ X, r) := by
  induction X with
  | nil => intro P r _; simp [revs, encV]
  | cons x X ih =>
    intro P r h
    have hx := h x (by simp)
    have e : encV (x :: X) ++ r = enc x.r ++ (enc (fold x.v) ++ (encV X ++ r)) := by simp [encV]
    rw [List.length_cons, revs, e, num_back x.r (by unfold U64; omega)]
    dsimp only [Option.bind_some]
    rw [int_back x.v hx.2]
    dsimp only [Option.bind_some]
    rw [if_neg (by omega), ih (P ++ [x]) r (fun y hy => h y (by simp [hy]))]
    simp
theorem revs_fwd (n : Nat) : ∀ P l E r, revs n P l = some (E, r) → ∃ X, X.length = n ∧ E = P ++ X ∧ l = encV X ++ r ∧ ∀ e ∈ X, e.r ≤ 7 ∧ I64 e.v := by
  induction n with
  | zero =>
    intro P l E r h
    simp only [revs, Option.some.injEq, Prod.mk.injEq] at h
    obtain ⟨rfl, rfl⟩ := h
    exact ⟨[], rfl, by simp, by simp [encV], by simp⟩
  | succ n ih =>
    intro P l E r h
    rw [revs] at h
    cases h1 : num l with
    | none => rw [h1] at h; cases h
    | some a =>
      obtain ⟨k, l1⟩ := a
      rw [h1] at h
      dsimp only [Option.bind_some] at h
      cases h2 : int l1 with
      | none => rw [h2] at h; cases h
      | some b =>
        obtain ⟨v, l2⟩ := b
        rw [h2] at h
        dsimp only [Option.bind_some] at h
        split at h
        · cases h
        · rename_i hk
          obtain ⟨X, h4, h5, h6, h7⟩ := ih (P ++ [⟨k, v⟩]) l2 E r h
          refine ⟨⟨k, v⟩ :: X, by simp [h4], by rw [h5]; simp, ?_, fun y hy => ?_⟩
          · rw [num_fwd h1, int_fwd h2, h6]; simp [encV]
          · rcases List.mem_cons.1 hy with rfl | hy
            · exact ⟨by show k ≤ 7; omega, (int_some h2).2.2⟩
            · exact h7 y hy
theorem decJn_back {j : Jn} (h : GoodJ j) : decJn (encJn j) = some j := by
  obtain ⟨b, ev, v⟩ := j
  have h1 := h.b8
  have h2 := h.e16
  have h3 := h.low
  dsimp only at h1 h2 h3
  have hr1 := rint_back b (enc ev.length ++ encV ev) h.b64
  have hr2 := revs_back ev [] [] h.ev
  rw [List.append_nil, List.nil_append] at hr2
  rw [h1] at hr1
  unfold decJn encJn
  dsimp only
  rw [num_back v h.v64]
  dsimp only [Option.bind_some]
  rw [hr1]
  dsimp only [Option.bind_some]
  rw [num_back ev.length (by unfold U64; omega)]
  dsimp only [Option.bind_some]
  rw [if_neg (by omega), hr2]
  rfl
theorem decJn_fwd {l : List UInt8} {j : Jn} (h : decJn l = some j) : encJn j = l ∧ GoodJ j := by
  unfold decJn at h
  cases h1 : num l with
  | none => rw [h1] at h; cases h
  | some a =>
    obtain ⟨v, l1⟩ := a
    rw [h1] at h
    dsimp only [Option.bind_some] at h
    cases h2 : rint 8 l1 with
    | none => rw [h2] at h; cases h
    | some b =>
      obtain ⟨base, l2⟩ := b
      rw [h2] at h
      dsimp only [Option.bind_some] at h
      cases h3 : num l2 with
      | none => rw [h3] at h; cases h
      | some c =>
        obtain ⟨n, l3⟩ := c
        rw [h3] at h
        dsimp only [Option.bind_some] at h
        split at h
        · cases h
        · rename_i hno
          cases h4 : revs n [] l3 with
          | none => rw [h4] at h; cases h
          | some d =>
            obtain ⟨E, r⟩ := d
            rw [h4] at h
            dsimp only [Option.bind_some] at h
            split at h
            · rename_i hr
              simp only [Option.some.injEq] at h
              subst h hr
              obtain ⟨i1, i2, i3⟩ := rint_fwd 8 l1 base l2 h2
              obtain ⟨X, x1, x2, x3, x4⟩ := revs_fwd n [] l3 E [] h4
              rw [List.nil_append] at x2
              subst x2
              rw [List.append_nil] at x3
              refine ⟨?_, i1, i3, by show E.length ≤ 16; omega, x4, by show E.length ≤ v; omega, num_lt h1⟩
              unfold encJn
              dsimp only
              rw [num_fwd h1, i2, num_fwd h3, x3, x1]
            · cases h
end Go.Proofs.YtpodoiichpnpjaaDoor
