/-
  The program that sends, as it is built: three instructions a letter; what its run comes to.
-/
import Derived.Test.YtpodoiichpnpjaaDoorMw
import Derived.Test.YtpodoiichpnpjaaDoorTh
import Derived.Test.YtpodoiichpnpjaaDoorZs
import Derived.Test.YtpodoiichpnpjaaDoorFd
namespace Go.Proofs.YtpodoiichpnpjaaDoor
open Go.RowKit
set_option maxRecDepth 100000
set_option linter.unusedVariables false
section
variable {T e : TypeId} {w wr w2 : World} {g : Nat} {v u : Value} {p : Pg}
/-- Some instructions more. -/
theorem PB.addCodes {T' : TypeId} {b : Nat} {z : Value} (R : RowT T' e 2 b z) (he : e ≠ 9) (hTe : T ≠ e) (hT : T ≠ 9) (h : PB T e w wr g v u p) (C : List In) (hC : C.length ≤ 1000) (hl : p.code.length ≤ 900000) (ty : TypeId) :
    ∃ ad c w2, (Builtin.append_ #[T', T'] ty #[u, .slice (some ⟨wr.heap.size, 0, none⟩) C.length C.length]).run Tryd.prog (wr.alloc (.cells (rowI C).flatten.toArray 60)) = .ok (.slice ad (p.code.length + C.length) c) w2 ∧ w2.cell? ⟨g, 1, none⟩ = some u ∧ w2.frozen? ⟨g, 1, none⟩ = false ∧ PB T e w (w2.setCell ⟨g, 1, none⟩ (.slice ad (p.code.length + C.length) c)) g v (.slice ad (p.code.length + C.length) c) ⟨p.names, p.code ++ C⟩ := by
  have k0 := (Kept.refl [] wr).alloc (.cells (rowI C).flatten.toArray 60)
  have h0 := h.keep k0
  obtain ⟨ad, c, w2, hrun, hO, hg, hN⟩ := run_appendR R (wr.alloc (.cells (rowI C).flatten.toArray 60)) ty u _ h0.code.own (.slice (some ⟨wr.heap.size, 0, none⟩) C.length C.length) (rowI C) (wideI C) (prog_fresh (heap_alloc_new wr _) hC) (by rw [rowI_length, rowI_length]; omega)
  rw [rowI_length, rowI_length] at hrun hO hN
  have k2 : Kept u.ownBlock.toList (wr.alloc (.cells (rowI C).flatten.toArray 60)) w2 := ((Kept.refl [] _).mono (by simp)).grown hg (fun x hx => .inl (by rw [Option.mem_toList]; exact hx))
  have gv : u.ownBlock ≠ some g := ownsR_ne h0.code.own h0.box hTe
  have hb2 : w2.heap[g]? = some (.cells #[v, u] T (0, 0)) := k2.keeps h0.box (by simpa using gv)
  have hc2 : OwnsR 9 1 w2 v (rowN p.names) := h0.names.own.kept k2 (fun g' hg' hm => own_apart h0.names.own h0.code.own (Ne.symm he) hg' (by simpa using hm))
  have e1 : rowI (p.code ++ C) = rowI p.code ++ rowI C := by simp [rowI]
  have ks : Kept [g] w2 (w2.setCell ⟨g, 1, none⟩ (.slice ad (p.code.length + C.length) c)) := (Kept.refl [g] w2).setCell (.inl (by simp)) _
  have gn : ∀ g', (Value.slice ad (p.code.length + C.length) c).ownBlock = some g' → g' ∉ [g] := fun g' hg' hm => by
    simp at hm
    subst hm
    exact ownsR_ne hO hb2 hTe hg'
  have gu : ∀ g', v.ownBlock = some g' → g' ∉ [g] := fun g' hg' hm => by
    simp at hm
    subst hm
    exact ownsR_ne hc2 hb2 hT hg'
  have kw : Kept [] w (w2.setCell ⟨g, 1, none⟩ (.slice ad (p.code.length + C.length) c)) := (h0.kept.trans k2 (fun x hx => .inr (h0.code.new x (by simpa using hx)))).trans ks (fun x hx => .inr (by simp at hx; subst hx; exact h0.hg))
  refine ⟨ad, c, w2, hrun, by simp [World.cell?, hb2], by simp [World.frozen?, hb2], ⟨set_at hb2, ⟨hc2.kept ks gu, h0.names.new, kw⟩, ⟨?_, fun g' hg' => ?_, kw⟩, h0.hg⟩⟩
  · rw [e1]; exact hO.kept ks gn
  · rcases hN g' hg' with h3 | h3
    · exact h0.code.new g' h3
    · exact Nat.le_trans h0.kept.size h3
end
/-- What the i-th letter bears. -/
def kdS (kind : Int) (i : Nat) : Int := IntKind.i64.wrap (kind + (i : Int))
theorem kdS_i64 (kind : Int) (i : Nat) : I64 (kdS kind i) := w64_I64 _
theorem sCode_succ (kind : Nat → Int) (reply : Bool) (n : Nat) : sCode kind reply (n + 1) = sCode kind reply n ++ [⟨1, kind n⟩, ⟨4, ((n % 4 : Nat) : Int)⟩, ⟨sOp reply n, 0⟩] := by simp [sCode, List.range_succ]
theorem sCode_mem {kind : Nat → Int} {reply : Bool} {n : Nat} {x : In} (h : x ∈ sCode kind reply n) : ∃ i, i < n ∧ (x = ⟨1, kind i⟩ ∨ x = ⟨4, ((i % 4 : Nat) : Int)⟩ ∨ x = ⟨sOp reply i, 0⟩) := by
  unfold sCode at h
  obtain ⟨i, hi, hx⟩ := List.mem_flatMap.1 h
  exact ⟨i, by simpa using hi, by simpa using hx⟩
theorem sOp_cases (reply : Bool) (i : Nat) : sOp reply i = 17 ∨ sOp reply i = 18 := by
  unfold sOp
  split
  · exact .inr rfl
  · exact .inl rfl
def ltS (A : List Int) : Lt := ⟨[109, 101], 0, 0, A⟩
theorem ltS_ok {A : List Int} (hA : ∀ z ∈ A, I64 z) : (ltS A).ok := lok_of (by show 0 < 18446744073709551616; omega) (i64_lit (by show (-9223372036854775808 : Int) ≤ 0 ∧ (0 : Int) ≤ 9223372036854775807; omega)) hA
theorem may_sends {kind : Nat → Int} {reply : Bool} {n : Nat} {A : List Int} (hn : n ≤ 6) (h4 : A.length = 4) : mayI (sendsP kind reply n) (ltS A) 0 = true := by
  have hf : formedP (sendsP kind reply n) = true := formed_yes (by simp [sendsP]) (by show (sCode kind reply n).length ≤ 200; rw [sCode_length]; omega) (fun i hi => by
      have : i = 0 := by simp [sendsP] at hi; exact hi
      subst this
      rfl) (fun i hi => by
    have hm : (sendsP kind reply n).code[i] ∈ sCode kind reply n := List.getElem_mem hi
    obtain ⟨j, hj, e | e | e⟩ := sCode_mem hm
    · rw [e]; rfl
    · rw [e]
      have h4 : j % 4 = 0 ∨ j % 4 = 1 ∨ j % 4 = 2 ∨ j % 4 = 3 := by omega
      rcases h4 with h | h | h | h <;> rw [h] <;> rfl
    · rw [e]
      rcases sOp_cases reply j with h | h <;> rw [h] <;> rfl)
  have hl : (ltS A).formed = true := by simp [Lt.formed, ltS, h4]
  unfold mayI
  rw [hf, hl]
  rfl
theorem okp_sends {kind : Nat → Int} {reply : Bool} {n : Nat} (hk : ∀ i, I64 (kind i)) : OkP (sendsP kind reply n) := fun x hx => by
  obtain ⟨j, hj, rfl | rfl | rfl⟩ := sCode_mem hx
  · exact hk j
  · exact i64_lit (by dsimp only; omega)
  · exact i64_lit (by dsimp only; omega)
theorem sends_few {kind : Nat → Int} {reply : Bool} {n : Nat} {A : List Int} (hn : n ≤ 4) (h4 : A.length = 4) : resI (sendsP kind reply n) z8 (ltS A) 0 = (⟨z8, [], sSent kind reply A n, [], 3 * n⟩, 0) := by
  unfold resI
  rw [if_pos (may_sends (by omega) h4)]
  have := (sends_whole (kind := kind) (reply := reply) (ser := 0) (k0 := 0) (now := 0) (args := A) (reg := z8) (n := n) (by omega)).1 hn
  unfold ltS
  rw [this]
  rfl
theorem sends_many {kind : Nat → Int} {reply : Bool} {n : Nat} {A : List Int} (hn : n ≤ 6) (h : 4 < n) (h4 : A.length = 4) : resI (sendsP kind reply n) z8 (ltS A) 0 = (Rsl.none 15, 12) := by
  unfold resI
  rw [if_pos (may_sends (by omega) h4)]
  have := (sends_whole (kind := kind) (reply := reply) (ser := 0) (k0 := 0) (now := 0) (args := A) (reg := z8) (n := n) (by omega)).2 h
  unfold ltS
  rw [this]
  rfl
/-- The cells of a letter that was sent. -/
theorem rowS_at {w : World} {a : Option Addr} {n c : Nat} {C : List Sn} (h : ReadsR 3 w (.slice a n c) (rowS C)) {j : Nat} {x : Sn} (hj : C[j]? = some x) : ∃ b o, a = some ⟨b, o, none⟩ ∧ w.cell? ⟨b, o + j * 3, none⟩ = some (.string ⟨x.to.toArray⟩) ∧ w.cell? ⟨b, o + j * 3 + 1, none⟩ = some (.int .i64 x.kind) ∧ w.cell? ⟨b, o + j * 3 + 2, none⟩ = some (.int .i64 x.arg) := by
  obtain ⟨b, o, c', e, hc⟩ := h.at j [.string ⟨x.to.toArray⟩, .int .i64 x.kind, .int .i64 x.arg] (by simp [rowS, hj])
  simp only [Value.slice.injEq] at e
  exact ⟨b, o, e.1, hc 0 _ rfl, hc 1 _ rfl, hc 2 _ rfl⟩
theorem sSent_at {kind : Nat → Int} {reply : Bool} {A : List Int} {n i : Nat} (h : i < n) : (sSent kind reply A n)[i]? = some ⟨sTo reply i, kind i, A.getD (i % 4) 0⟩ := by simp [sSent, h]
theorem sSent_length (kind : Nat → Int) (reply : Bool) (A : List Int) (n : Nat) : (sSent kind reply A n).length = n := by simp [sSent]
end Go.Proofs.YtpodoiichpnpjaaDoor
