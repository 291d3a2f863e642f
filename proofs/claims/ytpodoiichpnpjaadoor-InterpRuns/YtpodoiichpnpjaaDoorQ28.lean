import Derived.Deep.MidRow
import Derived.Test.YtpodoiichpnpjaaDoorQ06
import Derived.Test.YtpodoiichpnpjaaDoorQ09
import Derived.Test.YtpodoiichpnpjaaDoorQ10
import Derived.Test.YtpodoiichpnpjaaDoorQ11
import Derived.Test.YtpodoiichpnpjaaDoorQ15
/-
  Letters that are formed: the program's test and the document's.
-/
namespace Go.Proofs.YtpodoiichpnpjaaDoor
open Go.RowKit
set_option maxRecDepth 100000
set_option linter.unusedVariables false
section
variable {w : World}
set_option maxHeartbeats 1000000 in
theorem lformed18 (l : Lt) (a : Option Addr) (c : Nat) (h1 : l.fr.length ≤ 9223372036854775807) (h2 : l.args.length ≤ 9223372036854775807) : Calls Tryd.prog 18 #[.agg #[.string ⟨l.fr.toArray⟩, .int .u64 (l.ser : Int), .int .i64 l.kind, .slice a l.args.length c]] w fun e w' => e = .returned (.bool l.formed) ∧ Kept [] w w' := by
  obtain ⟨W0, e0, k0, -, hb⟩ := box1 w (.cells #[.string ⟨l.fr.toArray⟩, .int .u64 (l.ser : Int), .int .i64 l.kind, .slice a l.args.length c] 30)
  obtain ⟨y0, y1, y2, y3⟩ := cells4 hb
  have HK := Hid.mk k0
  have e : l.formed = (decide ((l.fr.length : Int) ≤ 40) && decide ((l.args.length : Int) ≤ 4)) := by
    unfold Lt.formed
    rw [Bool.eq_iff_iff]
    simp
    omega
  rw [e]
  clear e hb k0
  by_cases h3 : (l.fr.length : Int) ≤ 40
  · rw [decide_eq_true h3, Bool.true_and]
    go_enter Tryd.func18, Tryd.ntmps18
    go_wp2_with fail
    all_goals go_ret
    all_goals exact ⟨rfl, HK.out⟩
  · rw [decide_eq_false h3, Bool.false_and]
    go_enter Tryd.func18, Tryd.ntmps18
    go_wp2_with fail
    all_goals go_ret
    all_goals exact ⟨rfl, HK.out⟩
set_option maxHeartbeats 1000000 in
theorem lformed21 (l : Lt) (a : Option Addr) (c : Nat) (h1 : l.fr.length ≤ 9223372036854775807) (h2 : l.args.length ≤ 9223372036854775807) : Calls Tryd.prog 21 #[.agg #[.string ⟨l.fr.toArray⟩, .int .u64 (l.ser : Int), .int .i64 l.kind, .slice a l.args.length c]] w fun e w' => e = .returned (.bool l.formed) ∧ Kept [] w w' := by
  obtain ⟨W0, e0, k0, -, hb⟩ := box1 w (.cells #[.string ⟨l.fr.toArray⟩, .int .u64 (l.ser : Int), .int .i64 l.kind, .slice a l.args.length c] 30)
  obtain ⟨y0, y1, y2, y3⟩ := cells4 hb
  have HK := Hid.mk k0
  have e : l.formed = (decide ((l.fr.length : Int) ≤ 40) && decide ((l.args.length : Int) ≤ 4)) := by
    unfold Lt.formed
    rw [Bool.eq_iff_iff]
    simp
    omega
  rw [e]
  clear e hb k0
  by_cases h3 : (l.fr.length : Int) ≤ 40
  · rw [decide_eq_true h3, Bool.true_and]
    go_enter Tryd.func21, Tryd.ntmps21
    go_wp2_with fail
    all_goals go_ret
    all_goals exact ⟨rfl, HK.out⟩
  · rw [decide_eq_false h3, Bool.false_and]
    go_enter Tryd.func21, Tryd.ntmps21
    go_wp2_with fail
    all_goals go_ret
    all_goals exact ⟨rfl, HK.out⟩
end
end Go.Proofs.YtpodoiichpnpjaaDoor
/-
  Blocks that are stored and loaded whole, by their run equations. Over any program.
-/
namespace Go.Proofs.YtpodoiichpnpjaaDoor
open Go.RowKit
set_option maxRecDepth 100000
set_option linter.unusedVariables false
theorem wpList_load_run {P : Program} {w : World} {ops : Array Oper} {rest : List Oper} {o : Oper} {a : Act} {Q : Exit → Act → World → Prop} (t : TypeId) (x : Operand)
    (hop : o.op = .load t x) (hg : o.guard = none) (vx : Value) (hx : a.eval x = vx) (v : Value) (hrun : (Instr.loadAt t vx).run P w = .ok v w)
    (h : wpList P ops Q rest (a.put o.dst v) w) : wpList P ops Q (o :: rest) a w := by
  refine wpList_plain hg fun K hK' => ?_
  unfold Oper.wp execOp
  simp only [hop, hx, Sem.run_bind, Sem.run_pure, Result.andThen_ok, hrun]
  exact hK' _ _ h
theorem wpList_alloc_run {P : Program} {w : World} {ops : Array Oper} {rest : List Oper} {o : Oper} {a : Act} {Q : Exit → Act → World → Prop} (t : TypeId)
    (hop : o.op = .alloc t) (hg : o.guard = none) (v : Value) (w' : World) (hrun : (Instr.alloc t true (.tuple #[])).run P w = .ok v w')
    (h : wpList P ops Q rest (a.put o.dst v) w') : wpList P ops Q (o :: rest) a w := by
  refine wpList_plain hg fun K hK' => ?_
  unfold Oper.wp execOp
  simp only [hop, Sem.run_bind, Sem.run_pure, Result.andThen_ok, hrun]
  exact hK' _ _ h
theorem wpList_store_run {P : Program} {w : World} {ops : Array Oper} {rest : List Oper} {o : Oper} {a : Act} {Q : Exit → Act → World → Prop} (t : TypeId) (x y : Operand)
    (hop : o.op = .store t x y) (hg : o.guard = none) (vx vy : Value) (hx : a.eval x = vx) (hy : a.eval y = vy) (w' : World) (hrun : (Instr.storeAt t vx vy).run P w = .ok () w')
    (h : wpList P ops Q rest (a.put o.dst undef) w') : wpList P ops Q (o :: rest) a w := by
  refine wpList_plain hg fun K hK' => ?_
  unfold Oper.wp execOp
  simp only [hop, hx, hy, Sem.run_bind, Sem.run_pure, Result.andThen_ok, hrun]
  exact hK' _ _ h
def sets (l : List Value) (o : Nat) : List Value → List Value
  | [] => l
  | v :: vs => sets (l.set o v) (o + 1) vs
theorem sets_eq (vs : List Value) : ∀ (l : List Value) (o : Nat), o + vs.length ≤ l.length → sets l o vs = l.take o ++ vs ++ l.drop (o + vs.length) := by
  induction vs with
  | nil => intro l o h; simp [sets]
  | cons v vs ih =>
    intro l o h
    rw [List.length_cons] at h
    rw [sets, ih _ _ (by rw [List.length_set]; omega), List.drop_set_of_lt (by omega), List.length_cons, show o + 1 + vs.length = o + (vs.length + 1) by omega]
    have : (l.set o v).take (o + 1) = l.take o ++ [v] := by
      rw [List.take_add_one, List.take_set_of_le (Nat.le_refl _), List.getElem?_set_self (by omega)]
      rfl
    rw [this]
    simp
theorem setCells_list {p : Nat} {t : TypeId} (vs : List Value) : ∀ {w : World} {o : Nat} {L : List Value}, w.heap[p]? = some (.cells L.toArray t (0, 0)) → (w.setCells p o vs).heap[p]? = some (.cells (sets L o vs).toArray t (0, 0)) := by
  induction vs with
  | nil => intro w o L h; exact h
  | cons v vs ih => intro w o L h; rw [World.setCells]; exact ih (set_list h)
theorem Kept.setCells {S : List Nat} {a : World} {p : Nat} (hp : p ∈ S ∨ a.heap.size ≤ p) (vs : List Value) : ∀ {w : World} (h : Kept S a w) (o : Nat), Kept S a (w.setCells p o vs) := by
  induction vs with
  | nil => intro w h o; exact h
  | cons v vs ih => intro w h o; rw [World.setCells]; exact ih (h.setCell (p := ⟨p, o, none⟩) hp v) (o + 1)
section
variable {P : Program} {w : World} {g : Nat} {t : TypeId} {L X : List Value}
/-- A block is stored whole. -/
theorem store_whole (hb : w.heap[g]? = some (.cells L.toArray t (0, 0))) (hl : X.length = L.length) (hi : (P.info? t).map (·.size) = some X.length) (h1 : ∀ v ∈ X, v.oneCell' = true) : ∃ W, (Instr.storeAt t (.pointer (some ⟨g, 0, none⟩)) (.agg X.toArray)).run P w = .ok () W ∧ W.heap[g]? = some (.cells X.toArray t (0, 0)) ∧ Kept [g] w W := by
  refine ⟨_, run_storeAt_mid w g 0 t X.toArray (fun j hj => ?_) (by rw [List.size_toArray]; exact hi) (all_oneCell_toArray h1), ?_, Kept.setCells (.inl (by simp)) _ (Kept.refl [g] w) 0⟩
  · rw [List.size_toArray, hl] at hj
    refine ⟨?_, by simp [World.frozen?, hb]⟩
    rw [Nat.zero_add, cell_list hb (List.getElem?_eq_getElem hj)]
    rfl
  · rw [setCells_list _ hb, sets_eq _ _ _ (by simp; omega)]
    simp [hl]
/-- A part of a block is loaded. -/
theorem load_mid (o : Nat) {pre : List Value} (hb : w.heap[g]? = some (.cells (pre ++ X).toArray t (0, 0))) (ho : pre.length = o) (ty : TypeId) (d : TypeDesc) (hd : (match d with | .struct _ | .array _ _ => true | _ => false) = true) (hu : P.underlying ty = some d) (hi : (P.info? ty).map (·.size) = some X.length) : (Instr.loadAt ty (.pointer (some ⟨g, o, none⟩))).run P w = .ok (.agg X.toArray) w := by
  subst ho
  refine run_loadAt_mid w g pre.length ty X d (fun j v hv => ?_) hu hd hi
  exact cell_list hb (by rw [List.getElem?_append_right (by omega), Nat.add_sub_cancel_left]; exact hv)
end
theorem box4 (w : World) (o0 o1 o2 o3 : Obj) : ∃ W, (((w.alloc o0).alloc o1).alloc o2).alloc o3 = W ∧ Kept [] w W ∧ W.heap.size = w.heap.size + 4 ∧ W.heap[w.heap.size]? = some o0 ∧ W.heap[w.heap.size + 1]? = some o1 ∧ W.heap[w.heap.size + 1 + 1]? = some o2 ∧ W.heap[w.heap.size + 1 + 1 + 1]? = some o3 := by
  refine ⟨_, rfl, ((((Kept.refl [] w).alloc _).alloc _).alloc _).alloc _, by simp, ?_, ?_, ?_, ?_⟩
  · rw [Below.heap_alloc _ _ _ (by simp <;> omega), Below.heap_alloc _ _ _ (by simp <;> omega), Below.heap_alloc _ _ _ (by simp)]; exact heap_alloc_new w _
  · rw [Below.heap_alloc _ _ _ (by simp <;> omega), Below.heap_alloc _ _ _ (by simp)]
    have := heap_alloc_new (w.alloc o0) o1
    simpa using this
  · rw [Below.heap_alloc _ _ _ (by simp)]
    have := heap_alloc_new ((w.alloc o0).alloc o1) o2
    simpa using this
  · have := heap_alloc_new (((w.alloc o0).alloc o1).alloc o2) o3
    simpa using this
theorem cellsR_one {reg : List Int} {ev sn tm : Value} {k : Nat} (h1 : ev.oneCell' = true) (h2 : sn.oneCell' = true) (h3 : tm.oneCell' = true) : ∀ v ∈ cellsR reg ev sn tm k, v.oneCell' = true := fun v hv => by
  rcases List.mem_append.1 hv with hv | hv
  · exact BI_one _ v hv
  · simp at hv
    rcases hv with rfl | rfl | rfl | rfl
    · exact h1
    · exact h2
    · exact h3
    · rfl
/-- What a cell says as a number. -/
def natAt (w : World) (p o : Nat) : Nat := match w.cell? ⟨p, o, none⟩ with
  | some (.int _ z) => z.toNat
  | _ => 0
theorem natAt_eq {w : World} {p o k : Nat} (h : w.cell? ⟨p, o, none⟩ = some (.int .i64 (k : Int))) : natAt w p o = k := by
  unfold natAt
  rw [h]
  exact Int.toNat_natCast k
end Go.Proofs.YtpodoiichpnpjaaDoor
/-
  What holds of a run all the way; what a run answers. Without memory.
-/
namespace Go.Proofs.YtpodoiichpnpjaaDoor
set_option linter.unusedVariables false
/-- What holds behind k steps. -/
structure Sound (reg0 : List Int) (now : Int) (k : Nat) (m : Mc) : Prop where
  fine : Fine reg0 now m
  wide : WideM k m
  few : m.tm.length ≤ k
def TmO (n : Nat) : Ou → Prop
  | .go m => m.tm.length ≤ n
  | .halt m => m.tm.length ≤ n
  | .err e => True
theorem TmO.ite {n : Nat} {c : Prop} [Decidable c] {a b : Ou} (h1 : TmO n a) (h2 : TmO n b) : TmO n (if c then a else b) := by
  by_cases h : c
  · rw [if_pos h]; exact h1
  · rw [if_neg h]; exact h2
theorem act_tm {p : Pg} {l : Lt} {now : Int} {m : Mc} {op g : Nat} {arg x y : Int} : TmO (m.tm.length + 1) (actI p l now m op g arg x y) := by
  unfold actI
  repeat' (apply TmO.ite)
  all_goals (simp [TmO])
theorem one_tm {p : Pg} {l : Lt} {now : Int} {m : Mc} {i : In} : TmO (m.tm.length + 1) (oneI p l now m i) := by
  unfold oneI
  exact TmO.ite trivial (TmO.ite act_tm (TmO.ite act_tm act_tm))
def SoundO (reg0 : List Int) (now : Int) (k : Nat) : Ou → Prop
  | .go m => Sound reg0 now k m
  | .halt m => Sound reg0 now k m
  | .err e => e = 10 ∨ e = 12
theorem Sound.start {reg : List Int} {now : Int} (h : ∀ z ∈ reg, I64 z) : Sound reg now 0 (Mc.start reg) := ⟨Fine.start, WideM.start h, by simp [Mc.start]⟩
theorem Sound.step {reg0 : List Int} {p : Pg} {l : Lt} {now : Int} {k : Nat} {m : Mc} {i : In} (hb : Base p l now) (h : Sound reg0 now k m) (hn : Named i) (ht : Told p i) : SoundO reg0 now (k + 1) (oneI p l now m i) := by
  have h1 := one_fine (p := p) (l := l) h.fine hn
  have h2 := one_wide hb h.wide ht
  have h3 := one_tm (p := p) (l := l) (now := now) (m := m) (i := i)
  have hf := h.few
  cases ho : oneI p l now m i with
  | go m' => rw [ho] at h1 h2 h3; exact ⟨h1, h2, by have h3 : m'.tm.length ≤ m.tm.length + 1 := h3; omega⟩
  | halt m' => rw [ho] at h1 h2 h3; exact ⟨h1, h2, by have h3 : m'.tm.length ≤ m.tm.length + 1 := h3; omega⟩
  | err e => rw [ho] at h1; exact h1
/-- What a run answers. -/
structure Rsl where
  reg : List Int
  ev : List Ev
  sent : List Sn
  tm : List Tm
  k : Nat
def Rsl.none (k : Nat) : Rsl := ⟨z8, [], [], [], k⟩
def endI : Rr → Rsl × Int
  | .ok m k => (⟨m.reg, m.ev, m.sent, m.tm, k⟩, 0)
  | .err e k => (Rsl.none k, e)
/-- May it be run at all. -/
def mayI (p : Pg) (l : Lt) (now : Int) : Bool := formedP p && l.formed && decide (0 ≤ now)
def resI (p : Pg) (reg : List Int) (l : Lt) (now : Int) : Rsl × Int := if mayI p l now = true then endI (runI p l now 500 0 (Mc.start reg)) else (Rsl.none 0, 1)
end Go.Proofs.YtpodoiichpnpjaaDoor
/-
  isKey, choices, fits, Formed.
-/
namespace Go.Proofs.YtpodoiichpnpjaaDoor
open Go.RowKit
set_option maxRecDepth 100000
set_option linter.unusedVariables false
section
variable {w : World}
set_option maxHeartbeats 1000000 in
theorem isKey30 (s : List UInt8) (hs : s.length ≤ 9223372036854775807) : Calls Tryd.prog 26 #[.string ⟨s.toArray⟩] w fun e w' => e = .returned (.bool (isKey s)) ∧ w = w' := by
  have hz : (⟨s.toArray⟩ : ByteArray).size = s.length := by simp [ByteArray.size]
  unfold isKey
  by_cases h1 : 1 ≤ s.length
  · have h1' : (1 : Int) ≤ (s.length : Int) := by omega
    by_cases h2 : s.length ≤ 40
    · have h2' : (s.length : Int) ≤ 40 := by omega
      have e : (decide (1 ≤ s.length) && decide (s.length ≤ 40)) = true := by simp [h1, h2]
      rw [e]
      go_enter Tryd.func26, Tryd.ntmps26
      go_wp2_with fail
      go_ret
      exact ⟨rfl, rfl⟩
    · have h2' : ¬ (s.length : Int) ≤ 40 := by omega
      have e : (decide (1 ≤ s.length) && decide (s.length ≤ 40)) = false := by simp [h2]
      rw [e]
      go_enter Tryd.func26, Tryd.ntmps26
      go_wp2_with fail
      go_ret
      exact ⟨rfl, rfl⟩
  · have h1' : ¬ (1 : Int) ≤ (s.length : Int) := by omega
    have e : (decide (1 ≤ s.length) && decide (s.length ≤ 40)) = false := by simp [h1]
    rw [e]
    go_enter Tryd.func26, Tryd.ntmps26
    go_wp2_with fail
    go_ret
    exact ⟨rfl, rfl⟩
set_option maxHeartbeats 1000000 in
theorem choices61 {a b : Option Addr} {nn nc c d : Nat} (k : Nat) (hk : k ≤ 5) (hn : nn ≤ 1000) (hc : nc ≤ 1000) : Calls Tryd.prog 40 #[.agg #[.slice a nn c, .slice b nc d], .int .i64 (k : Int)] w fun e w' => e = .returned (.int .i64 (choiceN nn nc k)) ∧ Kept [] w w' := by
  unfold choiceN
  match k, hk with
  | 0, _ =>
    go_enter Tryd.func40, Tryd.ntmps40
    go_wp2_with fail
    go_ret
    exact ⟨rfl, (Kept.refl [] w).alloc _⟩
  | 1, _ =>
    go_enter Tryd.func40, Tryd.ntmps40
    go_wp2_with fail
    go_ret
    exact ⟨rfl, (Kept.refl [] w).alloc _⟩
  | 2, _ =>
    go_enter Tryd.func40, Tryd.ntmps40
    go_wp2_with fail
    go_ret
    exact ⟨rfl, (Kept.refl [] w).alloc _⟩
  | 3, _ =>
    go_enter Tryd.func40, Tryd.ntmps40
    go_wp2_with fail
    go_ret
    exact ⟨rfl, (Kept.refl [] w).alloc _⟩
  | 4, _ =>
    have hc' : (nc : Int) ≤ 1000 := by omega
    go_enter Tryd.func40, Tryd.ntmps40
    go_wp2_with fail
    go_ret
    exact ⟨rfl, (Kept.refl [] w).alloc _⟩
  | 5, _ =>
    go_enter Tryd.func40, Tryd.ntmps40
    go_wp2_with fail
    go_ret
    exact ⟨rfl, (Kept.refl [] w).alloc _⟩
end
end Go.Proofs.YtpodoiichpnpjaaDoor
/-
  fits.
-/
namespace Go.Proofs.YtpodoiichpnpjaaDoor
open Go.RowKit
set_option maxRecDepth 100000
set_option linter.unusedVariables false
section
variable {w : World}
set_option maxHeartbeats 1000000 in
theorem fits31 {a b : Option Addr} {nn nc c d : Nat} (hG : Glob w) (x : In) (hn : nn ≤ 1000) (hc : nc ≤ 1000) : Calls Tryd.prog 27 #[.agg #[.slice a nn c, .slice b nc d], .agg #[.int .i64 x.op, .int .i64 x.arg]] w fun e w' => e = .returned (.bool (okI nn nc x)) ∧ Kept [] w w' := by
  by_cases h0 : x.op < 0
  · rw [okI_out (.inl h0)]
    go_enter Tryd.func27, Tryd.ntmps27
    go_wp2_with fail
    go_ret
    exact ⟨rfl, ((Kept.refl [] w).alloc _).alloc _⟩
  by_cases h1 : 24 ≤ x.op
  · rw [okI_out (.inr h1)]
    have h1' : x.op ≥ 24 := h1
    go_enter Tryd.func27, Tryd.ntmps27
    go_wp2_with fail
    go_ret
    exact ⟨rfl, ((Kept.refl [] w).alloc _).alloc _⟩
  obtain ⟨i, hi⟩ : ∃ i : Nat, x.op = (i : Int) := ⟨x.op.toNat, by omega⟩
  have hil : i < 24 := by omega
  obtain ⟨s, k, hw, hk, -, c1⟩ := op_at hG hil
  rw [okI_at hi hw hk, hi]
  have z0 : 0 < w.heap.size := World.block_lt_of_cell? _ _ c1
  rw [Nat.mul_comm] at c1
  have HG := Hid.mk hG
  have hI0 : (0 : Int) ≤ (i : Int) := by omega
  have hI1 : ¬ ((i : Int) < 0) := by omega
  have hI2 : ¬ ((24 : Int) ≤ (i : Int)) := by omega
  have hI3 : (i : Int) < 24 := by omega
  have HC : Hid (∀ W, Calls Tryd.prog 40 #[.agg #[.slice a nn c, .slice b nc d], .int .i64 (k : Int)] W fun e w' => e = .returned (.int .i64 (choiceN nn nc k)) ∧ Kept [] W w') := fun W => choices61 k hk hn hc
  generalize choiceN nn nc k = m at HC ⊢
  generalize x.arg = arg
  clear hi h0 h1 hw hG
  obtain ⟨W0, e0, k0, hz0, hb0, hb1⟩ := box2 w (.cells #[.slice a nn c, .slice b nc d] 43) (.cells #[.int .i64 i, .int .i64 arg] 60)
  have z1 : ∀ z : KW W0, z.w.cell? ⟨w.heap.size + 1, 1, none⟩ = some (.int .i64 arg) := fun z => z.k.cell_eq (by simp [World.cell?, hb1])
  have z2 : ∀ z : KW W0, z.w.cell? ⟨w.heap.size, 0, none⟩ = some (.slice a nn c) := fun z => z.k.cell_eq (by simp [World.cell?, hb0])
  have z3 : ∀ z : KW W0, z.w.cell? ⟨w.heap.size, 1, none⟩ = some (.slice b nc d) := fun z => z.k.cell_eq (by simp [World.cell?, hb0])
  have y0 : W0.cell? ⟨w.heap.size + 1, 0, none⟩ = some (.int .i64 i) := by simp [World.cell?, hb1]
  have y1 : W0.cell? ⟨w.heap.size + 1, 1, none⟩ = some (.int .i64 arg) := by simp [World.cell?, hb1]
  have y2 : W0.cell? ⟨0, i * 2 + 1, none⟩ = some (.int .i64 (k : Int)) := k0.cell_eq c1
  have HK0 := Hid.mk k0
  clear k0 hb0 hb1 hz0 c1
  have base : (∀ R : Bool, Hid ((decide (k = 1) || (decide (0 ≤ arg) && decide (arg < m))) = R) → Calls Tryd.prog 27 #[.agg #[.slice a nn c, .slice b nc d], .agg #[.int .i64 (i : Int), .int .i64 arg]] w fun e w' => e = .returned (.bool R) ∧ Kept [] w w') → Calls Tryd.prog 27 #[.agg #[.slice a nn c, .slice b nc d], .agg #[.int .i64 (i : Int), .int .i64 arg]] w fun e w' => e = .returned (.bool (decide (k = 1) || (decide (0 ≤ arg) && decide (arg < m)))) ∧ Kept [] w w' := fun h => h _ (Hid.mk rfl)
  refine base ?_
  clear base
  intro R HR
  by_cases hk1 : k = 1
  · subst hk1
    obtain rfl : R = true := by rw [← HR.out]; simp
    clear HR
    go_enter Tryd.func27, Tryd.ntmps27
    go_wp2_with fail
    refine wp_region_kw (C := fun W => ∃ z : KW W0, W = z.w) (by kernel_rfl) (by kernel_rfl) ⟨⟨W0.drew, (Kept.refl [] W0).drew⟩, rfl⟩ ?_
    repeat (go_big_quiet_step (first | (go_at_call 40; exact calls_kw (HC.out _)) | fail))
    refine wpQuiet_nil ?_
    rintro _ ⟨z, rfl⟩
    go_wp2_with fail
    go_ret
    exact ⟨rfl, HK0.out.then z.k⟩
  have t1 : ((k : Int) == 1) = false := by simpa using fun e : (k : Int) = 1 => hk1 (by omega)
  by_cases ha : 0 ≤ arg
  · by_cases hm : arg < m
    · obtain rfl : R = true := by rw [← HR.out]; simp [ha, hm]
      clear HR
      go_enter Tryd.func27, Tryd.ntmps27
      go_wp2_with fail
      refine wp_region_kw (C := fun W => ∃ z : KW W0, W = z.w) (by kernel_rfl) (by kernel_rfl) ⟨⟨W0.drew, (Kept.refl [] W0).drew⟩, rfl⟩ ?_
      repeat (go_big_quiet_step (first | (go_at_call 40; exact calls_kw (HC.out _)) | fail))
      refine wpQuiet_nil ?_
      rintro _ ⟨z, rfl⟩
      go_wp2_with fail
      go_ret
      exact ⟨rfl, HK0.out.then z.k⟩
    · obtain rfl : R = false := by rw [← HR.out]; simp [hk1, hm]
      clear HR
      have t2 : decide (arg < m) = false := by simpa using hm
      go_enter Tryd.func27, Tryd.ntmps27
      go_wp2_with fail
      refine wp_region_kw (C := fun W => ∃ z : KW W0, W = z.w) (by kernel_rfl) (by kernel_rfl) ⟨⟨W0.drew, (Kept.refl [] W0).drew⟩, rfl⟩ ?_
      repeat (go_big_quiet_step (first | (go_at_call 40; exact calls_kw (HC.out _)) | fail))
      refine wpQuiet_nil ?_
      rintro _ ⟨z, rfl⟩
      go_wp2_with fail
      go_ret
      exact ⟨rfl, HK0.out.then z.k⟩
  · obtain rfl : R = false := by rw [← HR.out]; simp [hk1, ha]
    clear HR
    have t2 : decide (0 ≤ arg) = false := by simpa using ha
    have t3 : decide (arg ≥ 0) = false := t2
    go_enter Tryd.func27, Tryd.ntmps27
    go_wp2_with fail
    refine wp_region_kw (C := fun W => ∃ z : KW W0, W = z.w) (by kernel_rfl) (by kernel_rfl) ⟨⟨W0.drew, (Kept.refl [] W0).drew⟩, rfl⟩ ?_
    repeat (go_big_quiet_step (first | (go_at_call 40; exact calls_kw (HC.out _)) | fail))
    refine wpQuiet_nil ?_
    rintro _ ⟨z, rfl⟩
    go_wp2_with fail
    go_ret
    exact ⟨rfl, HK0.out.then z.k⟩
end
end Go.Proofs.YtpodoiichpnpjaaDoor
