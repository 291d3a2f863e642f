/-
  A table: List.
-/
import Derived.Test.YtmihpgejaobdbaaTo
import Derived.Laws.MakeOwn
import Derived.LaidEqlPtr
namespace Go.Proofs.Ytmihpgejaobdbaa
set_option maxRecDepth 100000
open Go.RowKit
set_option linter.unusedVariables false
section
variable {P : Program} (w : World)
theorem run_neq_ptr_same {tp te : TypeId} {j : TypeInfo} (a : Addr) (hp : P.underlying tp = some (.pointer te)) (hte : P.info? te = some j) :
    (binOp .neq tp (.pointer (some a)) (.pointer (some a))).run P w = .ok (.bool false) w := by
  have h : ∀ d : Nat, (Op.equalIn (d + 1) tp (.pointer (some a)) (.pointer (some a))).run P w = .ok true w := fun d => by
    simp [Op.equalIn, run_underlying hp, sizeOf, typeInfo, hte, run_sameAddr_same]
  simp only [binOp]
  simp [Op.equal, Op.maxDepth, h 9999]
theorem run_neq_ptr_other {tp te : TypeId} {j : TypeInfo} {a b : Addr} {ca cb : Array Value} {ta tb : TypeId} (hp : P.underlying tp = some (.pointer te)) (hte : P.info? te = some j) (hsz : j.size ≠ 0)
    (hne : a ≠ b) (ha : w.heap[a.block]? = some (.cells ca ta (0, 0))) (hb : w.heap[b.block]? = some (.cells cb tb (0, 0))) :
    (binOp .neq tp (.pointer (some a)) (.pointer (some b))).run P w = .ok (.bool true) w := by
  have h : ∀ d : Nat, (Op.equalIn (d + 1) tp (.pointer (some a)) (.pointer (some b))).run P w = .ok false w := fun d => by
    simp [Op.equalIn, run_underlying hp, sizeOf, typeInfo, hte, hsz, run_sameAddr_other w hne ha hb]
  simp only [binOp]
  simp [Op.equal, Op.maxDepth, h 9999]
end
theorem inf51 : (Try.prog.info? 51).map (fun i => (i.zero, i.size, i.bytes)) = some (some (.agg #[.string ⟨#[]⟩, .pointer none, .pointer none]), 3, 32) := by kernel_rfl
theorem ends_same (w : World) (O : Nat) : (binOp .neq 47 (.pointer (some ⟨O, 1, none⟩)) (.pointer (some ⟨O, 1, none⟩))).run Try.prog w = .ok (.bool false) w := by
  obtain ⟨i0, hi, hz0, hz1, hz2⟩ := info_parts inf51
  exact run_neq_ptr_same w _ Try.underlying47 hi
theorem ends_other {w : World} {O p n m : Nat} {s t : TypeId} (hp : Bk w p n s) (hO : Bk w O m t) : (binOp .neq 47 (.pointer (some ⟨p, 0, none⟩)) (.pointer (some ⟨O, 1, none⟩))).run Try.prog w = .ok (.bool true) w := by
  obtain ⟨i0, hi, hz0, hz1, hz2⟩ := info_parts inf51
  obtain ⟨ca, ha, -⟩ := hp
  obtain ⟨cb, hb, -⟩ := hO
  exact run_neq_ptr_other w Try.underlying47 hi (by rw [hz1]; decide) (by intro e; injection e with _ e _; cases e) ha hb
section
variable {w : World} {T : Nat} {m : Int} {L : List Ky} {F : List Nat}
theorem OwnsT.form {e : TypeId} {k : Nat} {w : World} {v : Value} {rs : List (List Value)} (h : OwnsR e k w v rs) : ∃ a c, v = .slice a rs.length c := by
  obtain ⟨a, c, h, -⟩ := OwnsR.form h
  exact ⟨a, c, h⟩
theorem make_room (w : World) (n : Nat) (hn : n ≤ 1000000) : ∃ w', (Instr.makeSlice 37 (.int .i64 0) (.int .i64 (n : Int))).run Try.prog w = .ok (.slice (some ⟨w.heap.size, 0, none⟩) 0 n) w' ∧ OwnsR 9 1 w' (.slice (some ⟨w.heap.size, 0, none⟩) 0 n) [] ∧ Kept [] w w' := by
  obtain ⟨i0, hi, hz0, hz1, hz2⟩ := info_parts rtT.info
  obtain ⟨w', h1, h2, h3⟩ := run_make_own (P := Try.prog) w 0 37 9 i0 _ 1 Try.underlying37 hi hz0 hz1 .i64 .i64 n (by rw [hz2]; omega) (by unfold maxLen; omega) (Nat.zero_le _)
  exact ⟨w', h1, h2, (Kept.refl [] w).grown h3 (by simp)⟩
set_option maxHeartbeats 1000000 in
theorem list17_nil (w : World) : Calls Try.prog 17 #[.pointer none] w fun e w' => e = .returned (.slice none 0 0) ∧ w = w' := by
  go_enter Try.func17, Try.ntmps17
  go_wp2_with fail
  go_ret
  exact ⟨rfl, rfl⟩
set_option maxHeartbeats 1000000 in
theorem list17_new (hb : w.heap[T]? = some (.cells #[.int .i64 m, .pointer none] 30 (0, 0))) : Calls Try.prog 17 #[Pp T] w fun e w' => e = .returned (.slice none 0 0) ∧ w = w' := by
  have c1 : w.cell? ⟨T, 1, none⟩ = some (.pointer none) := by simp [World.cell?, hb]
  go_enter Try.func17, Try.ntmps17
  go_wp2_with fail
  go_ret
  exact ⟨rfl, rfl⟩
/-- What is laid so far, and what is still to come. -/
def Far (w wr : World) (PL : List (Ky × Nat)) (x : Value) (B : List (Ky × Nat)) : Prop := ∃ A, PL = A ++ B ∧ OwnsR 9 1 wr x (CT (A.map (·.1))) ∧ Fresh w x ∧ Kept [] w wr
def lenV : Value → Nat
  | .slice _ n _ => n
  | _ => 0
theorem Far.len {wr : World} {PL B : List (Ky × Nat)} {x : Value} (h : Far w wr PL x B) : lenV x + B.length = PL.length := by
  obtain ⟨A, rfl, h, -⟩ := h
  obtain ⟨a, c, rfl⟩ := OwnsT.form h
  simp [lenV, CT]
theorem Far.form {wr : World} {PL B : List (Ky × Nat)} {x : Value} (h : Far w wr PL x B) : ∃ a n c, x = .slice a n c := by
  obtain ⟨A, -, h, -⟩ := h
  obtain ⟨a, c, rfl⟩ := OwnsT.form h
  exact ⟨_, _, _, rfl⟩
theorem Far.more {wr w2 : World} {PL B : List (Ky × Nat)} {x : Value} {y : Ky × Nat} (h : Far w wr PL x (y :: B)) (hl : PL.length ≤ 10000) (k2 : Kept [] wr w2) : ∃ a n c w3, (Builtin.append_ #[37, 37] 37 #[x, .slice (some ⟨w2.heap.size, 0, none⟩) 1 1]).run Try.prog (w2.alloc (.cells #[Sv y.1] 9 (0, 0))) = .ok (.slice a n c) w3 ∧ Far w w3 PL (.slice a n c) B := by
  have hlen := h.len
  obtain ⟨A, rfl, h, hf, k1⟩ := h
  have hx : ∀ g, x.ownBlock = some g → g ∉ ([] : List Nat) := by simp
  obtain ⟨a, c, w3, hrun, hO, k3, hN⟩ := append_rowR rtT (h.kept k2 hx) [Sv y.1] rfl (fun x hx => by simp at hx; subst hx; rfl) (by rw [CT_length, List.length_map]; simp at hlen hl; omega) 9 (0, 0) 37
  refine ⟨a, _, c, w3, hrun, A ++ [y], by simp, ?_, fun g hg => ?_, (k1.trans k2 (by simp)).trans k3 (fun g hg => .inr (hf g (by rw [Option.mem_toList] at hg; exact hg)))⟩
  · have e : CT ((A ++ [y]).map (·.1)) = CT (A.map (·.1)) ++ [[Sv y.1]] := by simp [CT]
    rw [e]
    exact hO
  · rcases hN g hg with h | h
    · exact hf g h
    · have := k1.size; have := k2.size; omega
set_option maxHeartbeats 4000000 in
theorem list17_at {O M : Nat} {PL : List (Ky × Nat)} (hb : w.heap[T]? = some (.cells #[.int .i64 m, Pp O] 30 (0, 0))) (hO : IsO w O M PL) (hl : PL.length ≤ 10000) : Calls Try.prog 17 #[Pp T] w fun e w' => ∃ v, e = .returned v ∧ OwnsR 9 1 w' v (CT (PL.map (·.1))) ∧ Kept [] w w' ∧ Fresh w v := by
  have c1 : w.cell? ⟨T, 1, none⟩ = some (Pp O) := by simp [World.cell?, hb]
  have c2 := hO.places
  have c3 : w.cell? ⟨O, 3, none⟩ = some (Nd.pt (hdd (O, 1) (nds PL))) := ((seg_up w (O, 1) (nds PL) (O, 1)).1 hO.ring).1.1
  have hlen := fun ty => hO.mp.size ty
  obtain ⟨w1, hmk, hO1, k1⟩ := make_room w PL.length (by omega)
  have HH := Hid.mk hO
  have HL := Hid.mk hl
  have d1 := k1.cell_eq c1
  have d3 := k1.cell_eq c3
  have HC1 := Hid.mk c1
  have HF : Hid (Far w w1 PL (.slice (some ⟨w.heap.size, 0, none⟩) 0 PL.length) PL) := ⟨[], rfl, hO1, fun g hg => by simp [Value.ownBlock] at hg; omega, k1⟩
  clear hO hO1 k1
  go_enter Try.func17, Try.ntmps17
  go_wp2_with fail
  have HR : Hid (∀ A B, PL = A ++ B → Up w (O, 1) (nds B)) := fun A B e => by
    have := HH.out.ring
    rw [e, nds, List.map_append] at this
    exact ((seg_split w (O, 1) (nds A) (nds B) (O, 1)).1 this).2.2
  go_loopw [3, 4] (fun x p wr => ∃ B, p = Nd.pt (hdd (O, 1) (nds B)) ∧ Hid (Far w wr PL x B)) (fun x p _ => PL.length - lenV x)
  case atStart => exact ⟨PL, rfl, HF⟩
  case round =>
    obtain ⟨B, rfl, hB⟩ := hrel
    have hk : Kept [] w wr := by
      obtain ⟨A, -, -, -, k⟩ := hB.out
      exact k
    have e1 := hk.cell_eq HC1.out
    cases B with
    | nil =>
      have HB := Hid.mk hB.out
      clear hB hk
      have hp : Nd.pt (hdd (O, 1) (nds [])) = .pointer (some ⟨O, 1, none⟩) := rfl
      rw [hp]
      have hq := ends_same wr O
      go_wp2_with fail
      go_ret
      obtain ⟨A, hA, h1, h2, h3⟩ := HB.out
      rw [List.append_nil] at hA
      exact ⟨_, rfl, by rw [hA]; exact h1, h3, h2⟩
    | cons y B =>
      have hp : Nd.pt (hdd (O, 1) (nds (y :: B))) = .pointer (some ⟨y.2, 0, none⟩) := rfl
      rw [hp]
      obtain ⟨A, hA, -⟩ := hB.out
      have hy : y ∈ PL := by rw [hA]; simp
      have e2 := hk.cell_eq (HH.out.pk y hy).2
      have e3 := hk.cell_eq (HR.out A (y :: B) hA).1.1
      have hyl := HH.out.mp.wf y hy
      have hyO : ¬ y.2 = O := fun e => HH.out.apart (List.mem_map.2 ⟨y, hy, e⟩)
      have hq := ends_other ((HH.out.pk y hy).1.kept hk (by simp)) (HH.out.bk.kept hk (by simp))
      have HB := Hid.mk hB.out
      have HC := Hid.mk (clone23 (w := wr) y.1 (by omega))
      obtain ⟨ax, nx, cx, rfl⟩ := hB.out.form
      have HLen := Hid.mk hB.out.len
      clear hB hk hA hy
      go_wp2_with fail
      refine HC.out.mono ?_
      rintro e w2 ⟨rfl, k2⟩
      obtain ⟨a3, n3, c3, w3, hrun, hF3⟩ := HB.out.more HL.out k2
      have HF3 := Hid.mk hF3
      have hk3 : Kept [] w w3 := by
        obtain ⟨A, -, -, -, k⟩ := hF3
        exact k
      obtain ⟨A, hA, -⟩ := HB.out
      have hy : y ∈ PL := by rw [hA]; simp
      have e3 := hk3.cell_eq (HR.out A (y :: B) hA).1.1
      have HLen3 := Hid.mk hF3.len
      clear hF3 hk3 k2 hA hy
      go_wp2_with (at_builtin; refine wpList_append_run 37 37 _ _ rfl (by rfl) _ _ rfl rfl _ _ hrun ?_)
      go_roundw
      case rel => exact ⟨B, rfl, HF3⟩
      case measure =>
        have h1 := HLen.out
        have h2 := HLen3.out
        simp only [lenV, List.length_cons] at *
        omega
/-- List. -/
theorem list17 (h : IsT w T m L F) (hl : L.length ≤ 10000) : Calls Try.prog 17 #[Pp T] w fun e w' => ∃ v, e = .returned v ∧ OwnsR 9 1 w' v (CT L) ∧ Kept [] w w' ∧ Fresh w v := by
  rcases h with ⟨hb, rfl, rfl⟩ | ⟨O, M, PL, hb, hO, rfl, rfl⟩
  · exact (list17_new hb).mono fun e w' ⟨h1, h2⟩ => by subst h2; exact ⟨_, h1, OwnsR.nil 9 1 _, Kept.refl _ _, fresh_nil _ _⟩
  · exact list17_at hb hO (by simpa using hl)
end
end Go.Proofs.Ytmihpgejaobdbaa
