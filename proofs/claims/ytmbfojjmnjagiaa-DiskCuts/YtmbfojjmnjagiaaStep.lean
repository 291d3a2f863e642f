/-
  step: one call on both disks.
-/
import Derived.Test.YtmbfojjmnjagiaaAlike
namespace Go.Proofs.Ytmbfojjmnjagiaa
open Go.RowKit
set_option linter.unusedVariables false

/-- A call of the script. -/
structure OpD where
  kind : Int
  i : Int
  b : UInt8
  odd : Bool

/-- The call, as a value. -/
def OpD.val (o : OpD) : Value := .agg #[.int .i64 o.kind, .int .i64 o.i, .int .u8 (o.b.toNat : Int), .bool o.odd]
/-- Its number lies in its kind's bounds. -/
def OpD.ok (o : OpD) : Prop := -9223372036854775808 ≤ o.i ∧ o.i < 9223372036854775808

/-- What a call makes of a disk. -/
def stepS (s : St) (o : OpD) : St := if o.kind = 1 then wrS s o.i (blockV o.b o.odd) else if o.kind = 3 then fuseS s o.i else if o.kind = 4 then restS s else s
theorem stepS_len (s : St) (o : OpD) : (stepS s o).ws.length ≤ s.ws.length + 1 := by
  unfold stepS
  split
  · exact wrS_len s _ _
  split
  · exact Nat.le_succ _
  split
  · exact Nat.le_succ _
  · omega

/-- The call lies at block r. -/
def OpAt (w : World) (r : Nat) (kd i : Int) (b : UInt8) (odd : Bool) : Prop := w.heap[r]? = some (.cells #[.int .i64 kd, .int .i64 i, .int .u8 (b.toNat : Int), .bool odd] 30 (0, 0))
/-- Its cells. -/
def OpS (r : Nat) (kd i : Int) (b : UInt8) (odd : Bool) (w : World) : Prop := w.cell? ⟨r, 0, none⟩ = some (.int .i64 kd) ∧ w.cell? ⟨r, 1, none⟩ = some (.int .i64 i) ∧ w.cell? ⟨r, 2, none⟩ = some (.int .u8 (b.toNat : Int)) ∧ w.cell? ⟨r, 3, none⟩ = some (.bool odd)
theorem OpAt.cells {w : World} {r : Nat} {kd i : Int} {b : UInt8} {odd : Bool} (h : OpAt w r kd i b odd) : OpS r kd i b odd w := cells4 h
theorem OpAt.kept {S : List Nat} {w w' : World} {r : Nat} {kd i : Int} {b : UInt8} {odd : Bool} (h : OpAt w r kd i b odd) (k : Kept S w w') (hn : r ∉ S) : OpAt w' r kd i b odd := k.keeps h hn

/-- A Write on both. -/
theorem write_both {w : World} {H : List Nat} {p q r : Nat} {s : St} (kd i : Int) (b : UInt8) (odd : Bool) (hT : Two w H p q s) (hO : OpAt w r kd i b odd) (hr : r ∉ H) (hb : s.ws.length ≤ 1000) :
    Calls Try.prog 18 #[.agg #[.int .i64 kd, .int .i64 i, .int .u8 (b.toNat : Int), .bool odd]] w fun e wa => ∃ v, e = .returned v ∧ OpS r kd i b odd wa ∧
    Calls Try.prog 17 #[.pointer (some ⟨p, 0, none⟩), .int .i64 i, v] wa fun e wb => e = .returned (.int .i64 (wrE s i (blockV b odd).length)) ∧ OpS r kd i b odd wb ∧
    Calls Try.prog 18 #[.agg #[.int .i64 kd, .int .i64 i, .int .u8 (b.toNat : Int), .bool odd]] wb fun e wc => ∃ v', e = .returned v' ∧ OpS r kd i b odd wc ∧
    Calls Try.prog 24 #[.pointer (some ⟨q, 0, none⟩), .int .i64 i, v'] wc fun e wd => e = .returned (.int .i64 (wrE s i (blockV b odd).length)) ∧ OpS r kd i b odd wd ∧ ∃ H', Two wd H' p q (wrS s i (blockV b odd)) ∧ Kept H w wd ∧ NewF w H H' := by
  obtain ⟨F, G, rfl, h1, h2, h3⟩ := hT
  have hrF : r ∉ F := fun h => hr (by simp [h])
  have hrG : r ∉ G := fun h => hr (by simp [h])
  refine (block_any kd i b odd w).mono fun e wa ⟨v, he, hra, ka, fa⟩ => ⟨v, he, (hO.kept ka (by simp)).cells, ?_⟩
  have h1a := h1.kept ka (by simp)
  have h2a := h2.kept ka (by simp)
  have hOa := hO.kept ka (by simp)
  refine (write_any h1a i v _ hra (fun g hg hm => by have := fa g hg; have := h1.lt g hm; omega) hb).mono fun e wb ⟨he, F', h1b, kb, nb⟩ => ⟨he, (hOa.kept kb hrF).cells, ?_⟩
  have h2b := h2a.kept kb (fun x hx hm => h3 x hm hx)
  have hOb := hOa.kept kb hrF
  have hsa := ka.size
  have hFG : ∀ x ∈ F', x ∉ G := fun x hx hm => by
    rcases nb x hx with h | h
    · exact h3 x h hm
    · have := h2.lt x hm; omega
  refine (block_any kd i b odd wb).mono fun e wc ⟨v', he, hrc, kc, fc⟩ => ⟨v', he, (hOb.kept kc (by simp)).cells, ?_⟩
  have h1c := h1b.kept kc (by simp)
  have h2c := h2b.kept kc (by simp)
  have hOc := hOb.kept kc (by simp)
  refine (fwrite_any h2c i v' _ hrc (fun g hg hm => by have := fc g hg; have := h2b.lt g hm; omega) hb).mono fun e wd ⟨he, G', h2d, kd, nd⟩ => ⟨he, (hOc.kept kd hrG).cells, F' ++ G', ?_, ?_, ?_⟩
  · refine ⟨F', G', rfl, h1c.kept kd hFG, h2d, fun x hx hm => ?_⟩
    rcases nd x hm with h | h
    · exact hFG x hx h
    · have := h1c.lt x hx; omega
  · have a1 : Kept (F ++ G) w wb := (ka.mono (by simp)).trans kb (fun x hx => .inl (by simp [hx]))
    exact (a1.trans kc (by simp)).trans kd (fun x hx => .inl (by simp [hx]))
  · intro x hx
    have hsb := kb.size
    have hsc := kc.size
    rcases List.mem_append.1 hx with hx | hx
    · rcases nb x hx with h | h
      · exact .inl (by simp [h])
      · exact .inr (by omega)
    · rcases nd x hx with h | h
      · exact .inl (by simp [h])
      · exact .inr (by omega)

set_option maxRecDepth 100000 in
set_option maxHeartbeats 2000000 in
theorem step_1 {w : World} {H : List Nat} {p q : Nat} {s : St} (i : Int) (b : UInt8) (odd : Bool) (hT : Two w H p q s) (hb : s.ws.length ≤ 1000) :
    Calls Try.prog 11 #[.pointer (some ⟨p, 0, none⟩), .pointer (some ⟨q, 0, none⟩), .agg #[.int .i64 1, .int .i64 i, .int .u8 (b.toNat : Int), .bool odd]] w fun e w' => e = .returned (.bool true) ∧ ∃ H', Two w' H' p q (wrS s i (blockV b odd)) ∧ Kept H w w' ∧ NewF w H H' := by
  have k0 : Kept [] w (w.alloc (.cells #[.int .i64 1, .int .i64 i, .int .u8 (b.toNat : Int), .bool odd] 30)) := (Kept.refl [] w).alloc _
  have hO : OpAt (w.alloc (.cells #[.int .i64 1, .int .i64 i, .int .u8 (b.toNat : Int), .bool odd] 30)) w.heap.size 1 i b odd := heap_alloc_new w _
  have hT0 := hT.kept k0 (by simp)
  have hrH : w.heap.size ∉ H := fun h => by have := hT.lt _ h; omega
  have k0d := k0.drew
  have hA := write_both 1 i b odd (hT0.kept ((Kept.refl [] _).drew) (by simp)) (hO.kept ((Kept.refl [] _).drew) (by simp)) hrH hb
  have hS0 := hO.cells
  have S0 : OpS w.heap.size 1 i b odd (w.alloc (.cells #[.int .i64 1, .int .i64 i, .int .u8 (b.toNat : Int), .bool odd] 30)).drew := hS0
  have hsz := k0d.size
  generalize wrS s i (blockV b odd) = s' at hA
  generalize wrE s i (blockV b odd).length = E at hA
  obtain ⟨c0, c1, c2, c3⟩ := hS0
  clear hT hT0 hO hb hrH k0
  go_enter Try.func11, Try.ntmps11
  go_wp2_with fail
  generalize w.alloc (.cells #[.int .i64 1, .int .i64 i, .int .u8 (b.toNat : Int), .bool odd] 30) = w0 at c0 c1 c2 c3 S0 hA k0d hsz
  go_region_held3 (fun w' => w'.cell? ⟨w.heap.size, 0, none⟩ = some (.int .i64 1) ∧ w'.cell? ⟨w.heap.size, 1, none⟩ = some (.int .i64 i) ∧ w'.cell? ⟨w.heap.size, 2, none⟩ = some (.int .u8 (b.toNat : Int)) ∧ w'.cell? ⟨w.heap.size, 3, none⟩ = some (.bool odd)) (first | exact S0 | exact S1 | exact S2 | exact S3 | exact S4) (first | (go_at_call 24; refine hD.mono ?_; rintro e wd ⟨rfl, S4, hE⟩) | (go_at_call 18; refine hC.mono ?_; rintro e wc ⟨vc, rfl, S3, hD⟩) | (go_at_call 17; refine hB.mono ?_; rintro e wb ⟨rfl, S2, hC⟩) | (go_at_call 18; refine hA.mono ?_; rintro e wa ⟨va, rfl, S1, hB⟩))
  all_goals
    obtain ⟨H', t1, t2, t3⟩ := hE
    have hfin : Hid (∃ H', Two wd H' p q s' ∧ Kept H w wd ∧ NewF w H H') := ⟨H', t1, (k0d.mono (by simp)).trans t2 (fun x hx => .inl hx), fun x hx => by rcases t3 x hx with h | h; exact .inl h; exact .inr (by omega)⟩
    clear t1 t2 t3
    go_wp2
    go_ret
    exact ⟨rfl, hfin.out⟩

end Go.Proofs.Ytmbfojjmnjagiaa
