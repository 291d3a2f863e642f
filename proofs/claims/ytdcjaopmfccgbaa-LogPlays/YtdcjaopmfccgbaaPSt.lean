/-
  What LogPlays keeps: a disk, its Log, and what lies in one as the document has it; the calls with a fuse.
-/
import Derived.Test.YtdcjaopmfccgbaaEpWalk
namespace Go.Proofs.Ytdcjaopmfccgbaa
open Go.RowKit
set_option linter.unusedVariables false

section
variable {w0 w w' : World} {q p : Nat} {s : St} {fr ct ep : Nat} {us : List (List UInt8)} {over : Bool} {X Y : List Nat}
theorem sy_fuse (h : Sy w0 w q p s fr ct ep us over X) (f : Nat) (hf : f < 1000) : Calls Try.prog 29 #[.pointer (some ⟨q, 0, none⟩), .int .i64 (f : Int)] w fun e w' => e = .returned (.tuple #[]) ∧ Sy w0 w' q p { s with fuse := (f : Int) } fr ct ep us over X ∧ KX X w w' := by
  obtain ⟨H, ⟨F, G, rfl, hD, hL, hFG, hA1, ha, hc⟩, hK, hH⟩ := h
  refine (setfuse_any hD (f : Int) (by omega) (by omega)).mono fun e w' ⟨he, hD', k⟩ => ⟨he, ⟨F ++ G, ⟨F, G, rfl, ?_, hL.kept k (fun x hx hm => hFG x hm hx), hFG, hA1, ha, hc⟩, hK.trans k (fun x hx => .inr (hH x (by simp [hx])).1), hH⟩, ⟨F, k, fun x hx hm => (hH x (by simp [hm])).2 hx⟩⟩
  have e : fuseS s (f : Int) = { s with fuse := (f : Int) } := by unfold fuseS; rw [show max (f : Int) (-1) = (f : Int) by omega]
  rw [← e]
  exact hD'
theorem sy_restart (h : Sy w0 w q p s fr ct ep us over X) : Calls Try.prog 30 #[.pointer (some ⟨q, 0, none⟩)] w fun e w' => e = .returned (.tuple #[]) ∧ Sy w0 w' q p { s with down := false, fuse := -1 } fr ct ep us over X ∧ KX X w w' := by
  obtain ⟨H, ⟨F, G, rfl, hD, hL, hFG, hA1, ha, hc⟩, hK, hH⟩ := h
  exact (restart_any hD).mono fun e w' ⟨he, hD', k⟩ => ⟨he, ⟨F ++ G, ⟨F, G, rfl, hD', hL.kept k (fun x hx hm => hFG x hm hx), hFG, hA1, ha, hc⟩, hK.trans k (fun x hx => .inr (hH x (by simp [hx])).1), hH⟩, ⟨F, k, fun x hx hm => (hH x (by simp [hm])).2 hx⟩⟩
theorem sy_append_over (h : Sy w0 w q p s fr ct ep us true X) (v : Value) : Calls Try.prog 14 #[.pointer (some ⟨p, 0, none⟩), v] w fun e w' => e = .returned (.int .i64 9) ∧ w = w' := by
  obtain ⟨H, h1, _, _⟩ := h
  exact append_over h1 v
theorem sy_reset_over (h : Sy w0 w q p s fr ct ep us true X) (z : Int) : Calls Try.prog 16 #[.pointer (some ⟨p, 0, none⟩), .int .u64 z] w fun e w' => e = .returned (.int .i64 9) ∧ w = w' := by
  obtain ⟨H, ⟨F, G, rfl, hD, hL, hFG, hA1, ha, hc⟩, hK, hH⟩ := h
  exact reset_over hL z
theorem sy_reset_range (h : Sy w0 w q p s fr ct ep us false X) (e2 : Nat) (hle : e2 ≤ ep) : Calls Try.prog 16 #[.pointer (some ⟨p, 0, none⟩), .int .u64 (e2 : Int)] w fun e w' => e = .returned (.int .i64 3) ∧ w = w' := by
  obtain ⟨H, ⟨F, G, rfl, hD, hL, hFG, hA1, ha, hc⟩, hK, hH⟩ := h
  exact reset_range hL e2 hle
/-- Append that does not write. -/
theorem sy_append_no (h : Sy w0 w q p s fr ct ep us false X) (a : Option Addr) (n c : Nat) (hn : n ≤ 60000) (hE : wrongE us ct n ≠ 0) : Calls Try.prog 14 #[.pointer (some ⟨p, 0, none⟩), .slice a n c] w fun e w' => e = .returned (.int .i64 (wrongE us ct n)) ∧ Kept [] w w' := by
  obtain ⟨H, hL, _, _⟩ := h
  by_cases h0 : n = 0
  · subst h0
    have e : wrongE us ct 0 = 1 := by unfold wrongE; rw [if_pos rfl]
    rw [e]
    exact (append_empty hL a c).mono fun e w' ⟨he, hw⟩ => ⟨he, hw ▸ Kept.refl [] w⟩
  · by_cases hfu : ct < tot us + bks n
    · have e : wrongE us ct n = 6 := by unfold wrongE; rw [if_neg h0, if_pos hfu]
      rw [e]
      exact append_full hL a n c (by omega) hn hfu
    · exact absurd (by unfold wrongE; rw [if_neg h0, if_neg hfu]) hE
/-- Append, with a fuse that may end in it. -/
theorem sy_append_fuse (h : Sy w0 w q p s fr ct ep us false X) (a : Option Addr) (n c : Nat) (l : List UInt8) (hr : Reads w (.slice a n c) l) (hl : l.length = n) (hX : ∀ g, (Value.slice a n c).ownBlock = some g → g ∈ X) (hXl : ∀ x ∈ X, x < w.heap.size) (hn : n ≤ 60000) (hE : wrongE us ct n = 0) (hd : s.down = false) (f : Nat) (hf : s.fuse = (f : Int)) (hws : s.ws.length ≤ 30000) :
    Calls Try.prog 14 #[.pointer (some ⟨p, 0, none⟩), .slice a n c] w fun e w' =>
      (bks n ≤ f ∧ e = .returned (.int .i64 0) ∧ Sy w0 w' q p (sj s fr ep (tot us) l (bks n)) fr ct ep (us ++ [l]) false X ∧ KX X w w') ∨ (f < bks n ∧ e = .returned (.int .i64 9) ∧ Sy w0 w' q p { sj s fr ep (tot us) l f with down := true } fr ct ep us true X ∧ KX X w w') := by
  have hroom : n ≠ 0 ∧ tot us + bks n ≤ ct := by
    unfold wrongE at hE
    by_cases h0 : n = 0
    · rw [if_pos h0] at hE; omega
    · rw [if_neg h0] at hE
      by_cases hc : ct < tot us + bks n
      · rw [if_pos hc] at hE; omega
      · exact ⟨h0, by omega⟩
  obtain ⟨H, hL, hK, hH⟩ := h
  refine (append_any hL a n c l hr hl (fun g hg hm => (hH g hm).2 (hX g hg)) (by omega) hn hroom.2 hd hws).mono fun e w' hA => ?_
  have fin : ∀ H' s' us' ov, Lg w' H' q s' p fr ct ep us' ov → Kept H w w' → NewF w H H' → Sy w0 w' q p s' fr ct ep us' ov X ∧ KX X w w' := fun H' s' us' ov hL' k' n' => ⟨⟨H', hL', hK.trans k' (fun x hx => .inr (hH x hx).1), fun x hx => by
    rcases n' x hx with h | h
    · exact hH x h
    · exact ⟨Nat.le_trans hK.size h, fun hm => by have := hXl x hm; omega⟩⟩, ⟨H, k', fun x hx hm => (hH x hm).2 hx⟩⟩
  rcases hA with ⟨he, h2, H', hL', k', n'⟩ | ⟨j, hj, hfj, he, H', hL', k', n'⟩
  · rw [hl] at hL' h2
    exact .inl ⟨by omega, he, fin _ _ _ _ hL' k' n'⟩
  · have hjf : j = f := by omega
    subst hjf
    rw [hl] at hj
    exact .inr ⟨hj, he, fin _ _ _ _ hL' k' n'⟩
end
/-- A text more in what lies in a log as the document has it. -/
theorem IsM.text {w : World} {M : List Nat} {r : Nat} {us : List (List UInt8)} {ct ep : Nat} (h : IsM w M r us ct ep) (l : List UInt8) (hn : us.length ≤ 65536) :
    ∃ a c ad c' w', w.cell? ⟨r, 0, none⟩ = some (.slice a us.length c) ∧ (w.alloc (.cells #[.string ⟨l.toArray⟩] 9)).cell? ⟨r, 0, none⟩ = some (.slice a us.length c) ∧
      (Builtin.append_ #[28, 28] 28 #[.slice a us.length c, .slice (some ⟨w.heap.size, 0, none⟩) 1 1]).run Try.prog (w.alloc (.cells #[.string ⟨l.toArray⟩] 9)) = .ok (.slice ad (us.length + 1) c') w' ∧ Kept M w w' ∧ w'.cell? ⟨r, 0, none⟩ = some (.slice a us.length c) ∧ w'.frozen? ⟨r, 0, none⟩ = false ∧
      ∃ M', IsM (w'.setCell ⟨r, 0, none⟩ (.slice ad (us.length + 1) c')) M' r (us ++ [l]) ct ep ∧ Kept M w (w'.setCell ⟨r, 0, none⟩ (.slice ad (us.length + 1) c')) ∧ ∀ x ∈ M', x ∈ M ∨ w.heap.size ≤ x := by
  obtain ⟨v, rfl, h1, h2, h3⟩ := h
  obtain ⟨a, c, rfl⟩ := h2.form
  have hr := lt_of_block h1
  obtain ⟨ad, c', w', hrun, hO, k, hN⟩ := append_text h2 l hn
  have k0 := (Kept.refl [] w).alloc (.cells #[.string ⟨l.toArray⟩] 9)
  have h1' := k.keeps h1 (by rw [Option.mem_toList]; exact h3)
  have hne : (Value.slice ad (us.length + 1) c').ownBlock ≠ some r := fun e => by
    rcases hN r e with h | h
    · exact h3 h
    · omega
  have k2 : Kept [r] w' (w'.setCell ⟨r, 0, none⟩ (.slice ad (us.length + 1) c')) := (Kept.refl [r] w').setCell (.inl (by simp)) _
  refine ⟨a, c, ad, c', w', by simp [World.cell?, h1], by simp [World.cell?, k0.keeps h1 (by simp)], hrun, k.mono (fun x hx => .inl (by simp [hx])), by simp [World.cell?, h1'], by simp [World.frozen?, h1'], _, ⟨.slice ad (us.length + 1) c', rfl, by rw [heap_setCell_same w' r 0 _ 30 _ h1']; rfl, hO.kept k2 (fun g hg => by simp; intro e; subst e; exact hne hg), hne⟩, (k.mono (fun x hx => .inl (by simp [hx]))).trans k2 (fun x hx => .inl (by simp at hx; simp [hx])), fun x hx => ?_⟩
  simp only [List.mem_cons, Option.mem_toList] at hx
  rcases hx with rfl | hx
  · exact .inl (by simp)
  · rcases hN x hx with h | h
    · exact .inl (by simp [h])
    · exact .inr h
/-- The disk, the Log, and what lies in it. -/
structure Pl (w wr : World) (q p r : Nat) (s : St) (fr ct ep : Nat) (us : List (List UInt8)) (over : Bool) (M Y : List Nat) : Prop where
  sy : Sy w wr q p s fr ct ep us over (Y ++ M)
  m : IsM wr M r us ct ep
  m0 : ∀ x ∈ M, w.heap.size ≤ x
  y : ∀ x ∈ Y, x < wr.heap.size ∧ x ∉ M
section
variable {w wr wx : World} {q p r : Nat} {s : St} {fr ct ep : Nat} {us : List (List UInt8)} {over : Bool} {M Y : List Nat}
theorem Pl.lt (h : Pl w wr q p r s fr ct ep us over M Y) : ∀ x ∈ Y ++ M, x < wr.heap.size := fun x hx => by
  rcases List.mem_append.1 hx with h1 | h1
  · exact (h.y x h1).1
  · exact h.m.lt x h1
theorem Pl.kept (h : Pl w wr q p r s fr ct ep us over M Y) (k : Kept [] wr wx) : Pl w wx q p r s fr ct ep us over M Y :=
  ⟨h.sy.kept k, h.m.kept k (by simp), h.m0, fun x hx => ⟨Nat.lt_of_lt_of_le (h.y x hx).1 k.size, (h.y x hx).2⟩⟩
theorem Pl.keptX {s' : St} {p' : Nat} {ov' : Bool} (h : Pl w wr q p r s fr ct ep us over M Y) (hS : Sy w wx q p' s' fr ct ep us ov' (Y ++ M)) (k : KX (Y ++ M) wr wx) : Pl w wx q p' r s' fr ct ep us ov' M Y := by
  have hsz := k.size
  refine ⟨hS, ?_, h.m0, fun x hx => ⟨Nat.lt_of_lt_of_le (h.y x hx).1 hsz, (h.y x hx).2⟩⟩
  obtain ⟨S, k, hSx⟩ := k
  exact h.m.kept k (fun x hx => hSx x (by simp [hx]))
theorem Pl.drop (h : Pl w wr q p r s fr ct ep us over M Y) : Pl w wr q p r s fr ct ep us over M [] := ⟨h.sy.less (by simp; intro y hy; exact .inr hy), h.m, h.m0, by simp⟩
end
theorem load28 (w : World) (a : Addr) (v : Value) (hc : w.cell? a = some v) : (Instr.loadAt 28 (.pointer (some a))).run Try.prog w = .ok v w := by go_simp
theorem store28 (w : World) (a : Addr) (u : Value) (ad : Option Addr) (n cap : Nat) (hc : w.cell? a = some u) (hz : w.frozen? a = false) : (Instr.storeAt 28 (.pointer (some a)) (.slice ad n cap)).run Try.prog w = .ok () (w.setCell a (.slice ad n cap)) := by go_simp
theorem build28 (w : World) (t : ByteArray) : (Instr.buildSlice 28 1 #[(0, .string t)]).run Try.prog w = .ok (.slice (some ⟨w.heap.size, 0, none⟩) 1 1) (w.alloc (.cells #[.string t] 9)) := by go_simp
theorem step_append_run {ops : Array Oper} {o : Oper} {a : Act} {w : World} {Q : Exit → Act → World → Prop} (t : TypeId) (sl x : Operand) (ho : o.op = .call { callee := .builtin .append, args := #[sl, x], argTypes := #[t, t] }) (hg : o.guard = none) (v y : Value) (hs : a.eval sl = v) (hx : a.eval x = y) {K : Act → World → Prop} {E : Prop} {r : Value} {w' : World} (hrun : (Builtin.append_ #[t, t] o.type #[v, y]).run Try.prog w = .ok r w') (hK : K (a.put o.dst r) w') :
    if Region.wanted o (yielded ops a.tmps) = true then Oper.wp Try.prog o a w K Q else E := by
  have hw : Region.wanted o (yielded ops a.tmps) = true := by simp [Region.wanted, hg]
  rw [if_pos hw]
  unfold Oper.wp execOp
  simp only [ho, resolve, invoke, builtin, Sem.run_bind, Sem.run_pure, Result.andThen_ok, List.map_toArray, List.map_cons, List.map_nil, hs, hx, hrun]
  exact hK
end Go.Proofs.Ytdcjaopmfccgbaa
