import Derived.Test.YtgpbhlfdlkemjaaGreatQ17
import Derived.Test.YtgpbhlfdlkemjaaGreatQ18
/-
  joined: what is asked and answered, in memory.
-/
namespace Go.Proofs.YtgpbhlfdlkemjaaGreat
open Go.RowKit
set_option linter.unusedVariables false

/-- The blocks of a node's items; of a branch none. -/
def ia : {k : Nat} → Tr k → List Nat
  | 0, n => n.2.map Itm.ad
  | _ + 1, _ => []
/-- The blocks of the nodes under it; of a leaf none. -/
def ua : {k : Nat} → Tr k → List Nat
  | 0, _ => []
  | _ + 1, n => n.2.map adr
theorem IsN.isB {w : World} {F : Nat → Prop} {ρ : Rho} : {k : Nat} → {n : Tr k} → IsN w F ρ n → IsB w F (adr n) (ρ (adr n)) k (ia n) (ua n)
  | 0, _, h => h.1
  | _ + 1, _, h => h.1
theorem IsB.raw {w : World} {F : Nat → Prop} {a k : Nat} {r : Nat × Nat} {is us : List Nat} (h : IsB w F a r k is us) : ∃ aI cI aU cU, w.cell? ⟨a, 0, none⟩ = some (.int .i64 (r.1 : Int)) ∧ w.cell? ⟨a, 1, none⟩ = some (.int .u64 (r.2 : Int)) ∧ w.cell? ⟨a, 2, none⟩ = some (.int .i64 (k : Int)) ∧ w.cell? ⟨a, 3, none⟩ = some (.slice aI is.length cI) ∧ w.cell? ⟨a, 4, none⟩ = some (.slice aU us.length cU) ∧ ReadsP w (.slice aI is.length cI) is ∧ ReadsP w (.slice aU us.length cU) us ∧ (is ≠ [] → ∀ g, (Value.slice aI is.length cI).ownBlock = some g → F g) ∧ (us ≠ [] → ∀ g, (Value.slice aU us.length cU).ownBlock = some g → F g) := by
  obtain ⟨vi, vu, h1, h2, h3, _, h5, h6⟩ := h
  obtain ⟨aI, cI, rfl, -⟩ := h2.form
  obtain ⟨aU, cU, rfl, -⟩ := h3.form
  exact ⟨aI, cI, aU, cU, by simp [World.cell?, h1], by simp [World.cell?, h1], by simp [World.cell?, h1], by simp [World.cell?, h1], by simp [World.cell?, h1], h2, h3, h5, h6⟩
/-- Behind a step of the update the nodes are as they were. -/
theorem IsN.stepU {w0 w w' : World} {F : Nat → Prop} {ρ : Rho} {k : Nat} {m : Tr k} {ub : Nat} {v v' : Value} {vs : List Value} (h : IsN w (Fw F w0 (v :: vs)) ρ m) (kk : Kept (uf ub v) w w') (hN : New w v v') (hub : ub < w0.heap.size ∧ ¬ F ub) : IsN w' (Fw F w0 (v' :: vs)) ρ m := by
  have h1 : IsN w (fun b => Fw F w0 (v :: vs) b ∧ b < w.heap.size) ρ m := h.monoS fun x hx hf => ⟨hf, hx⟩
  refine (h1.kept kk (fun x hx hf => ?_)).mono fun x hx => ⟨hx.1.1, fun u hu => ?_⟩
  · rcases mem_uf.1 hx with rfl | hx
    · rcases hf.1.1 with h2 | h2
      · exact hub.2 h2
      · omega
    · exact hf.1.2 v (by simp) hx
  · rcases List.mem_cons.1 hu with rfl | hu
    · intro e
      rcases hN x e with h2 | h2
      · exact hx.1.2 v (by simp) h2
      · have := hx.2; omega
    · exact hx.1.2 u (by simp [hu])
/-- A store into an own row. -/
theorem OwnsP.store {e : TypeId} {w : World} {v : Value} {B : List Nat} {y z : Nat} (h : OwnsP e w v (B ++ [y])) : ∃ g c, v = .slice (some ⟨g, 0, none⟩) (B.length + 1) c ∧ w.cell? ⟨g, B.length, none⟩ = some (Pp y) ∧ w.frozen? ⟨g, B.length, none⟩ = false ∧ OwnsP e (w.setCell ⟨g, B.length, none⟩ (Pp z)) v (B ++ [z]) ∧ B.length + 1 ≤ c ∧ c ≤ 9223372036854775807 := by
  have hl : (CP (B ++ [y])).length = B.length + 1 := by rw [CP_length]; simp
  rcases h.2 with ⟨_, h0⟩ | ⟨g, cap, cur, hv, hb, hg, h1, h2, h3, h4⟩
  · rw [hl] at h0; omega
  · rw [hl] at hv h1 h4
    have hfl : ∀ l : List Nat, (CP l).flatten = l.map Pp := fun l => by induction l <;> simp_all [CP]
    rw [hfl, Nat.mul_one] at h4
    rw [Nat.mul_one] at h3
    have hcur : cur.toList.take (B.length + 1) = B.map Pp ++ [Pp y] := by rw [h4]; simp
    have hBl : B.length < cur.size := by omega
    have hy : cur[B.length]? = some (Pp y) := by
      have : (cur.toList.take (B.length + 1))[B.length]? = some (Pp y) := by rw [hcur, List.getElem?_append_right (by simp)]; simp
      rw [List.getElem?_take, if_pos (by omega)] at this
      simpa using this
    have hc : w.cell? ⟨g, B.length, none⟩ = some (Pp y) := by simp [World.cell?, hg, hy]
    refine ⟨g, cap, hv, hc, by simp [World.frozen?, hg], ?_, h1, h2⟩
    refine ⟨by rw [hfl, CP_length]; simp, .inr ⟨g, cap, cur.setIfInBounds B.length (Pp z), ?_, hb, ?_, ?_, h2, by simp; omega, ?_⟩⟩
    · rw [hv, CP_length]; simp
    · rw [heap_setCell_same w g B.length _ e _ hg]
    · rw [CP_length]; simpa using h1
    · rw [hfl, CP_length, Nat.mul_one]
      have e1 : (B ++ [z]).length = B.length + 1 := by simp
      rw [e1, Array.toList_setIfInBounds, List.take_set, hcur]
      have e2 : ∀ (A : List Value) (p q : Value) (i : Nat), i = A.length → (A ++ [p]).set i q = A ++ [q] := fun A p q i hi => by subst hi; induction A <;> simp_all
      rw [e2 (B.map Pp) (Pp y) (Pp z) B.length (by simp)]
      simp
/-- What joined answers, in memory. -/
def Joined {k : Nat} (F : Nat → Prop) (ρ : Rho) (w : World) (ub : Nat) (vl : Value) (left : List Nat) (ls : List (Tr k)) (e : Ending) (w' : World) : Prop :=
  ∃ (v vl' : Value) (dl : List Nat) (ns : List (Tr k)), e = .returned v ∧ OwnsP 77 w' v (ns.map adr) ∧ Fresh w v ∧ IsU w' ub vl' (left ++ dl) ∧ Kept (uf ub vl) w w' ∧ New w vl vl' ∧ IsNs w' (Fw F w [vl', v]) ρ ns ∧ Jn ls ns ∧ (ls.flatMap (nms ρ)).Perm (ns.flatMap (nms ρ) ++ dl)
/-- What is asked of joined's call for the nodes below two that are made one. -/
def RecAt (k : Nat) : Prop := ∀ (w2 : World) (G : Nat → Prop) (ρ : Rho) (ub : Nat) (vr : Value) (left : List Nat) (y x : Tr k), Blank ρ w2 → IsU w2 ub vr left → (∀ b ∈ uf ub vr, ¬ G b) → IsN w2 G ρ y → IsN w2 G ρ x → Wf y → Wf x → fil y + fil x ≤ 236 → Sized (its y ++ its x) → left.length + (nms ρ y ++ nms ρ x).length ≤ 800000 + (pn ρ (adr y)).length + (pn ρ (adr x)).length →
  ∀ (W : World) (a : Option Addr) (n c : Nat), n = (ua y ++ ua x).length → Kept [] w2 W → OwnsP 77 W (.slice a n c) (ua y ++ ua x) → Fresh w2 (.slice a n c) →
  Calls Tryz.prog 80 #[Pp ub, .slice a n c] W fun e w' => ∃ (v' vl' : Value) (d us : List Nat), e = .returned v' ∧ ReadsP w' v' us ∧ Fresh w2 v' ∧ IsU w' ub vl' (left ++ d) ∧ Kept (uf ub vr) W w' ∧ New w2 vr vl' ∧ (∀ g, v'.ownBlock = some g → vl'.ownBlock ≠ some g ∧ g < w'.heap.size) ∧
    ∀ (w3 : World) (G3 : Nat → Prop) (S3 : List Nat) (zb : Nat), Kept S3 w' w3 → (∀ s ∈ S3, ¬ G3 s) → (∀ b, (G b ∨ w2.heap.size ≤ b) → vl'.ownBlock ≠ some b → b < w'.heap.size → G3 b) → ρ zb = (0, 0) → IsB w3 G3 zb (ρ zb) k (ia y ++ ia x) us →
      ∃ z : Tr k, adr z = zb ∧ IsN w3 G3 ρ z ∧ Mg ρ y x z (pn ρ (adr y) ++ pn ρ (adr x) ++ d)
end Go.Proofs.YtgpbhlfdlkemjaaGreat
/-
  joined: what is there when two nodes have become one.
-/
namespace Go.Proofs.YtgpbhlfdlkemjaaGreat
open Go.RowKit
set_option linter.unusedVariables false

theorem merge_end {w W3 w10 : World} {F : Nat → Prop} {ρ : Rho} {k : Nat} {ub : Nat} {vl v3 vl4 v68 v83 : Value} {g5 L c5 : Nat} {left dl d us : List Nat} {ls B : List (Tr k)} {y x : Tr k} {j : Nat}
    (hubF : ub < w.heap.size ∧ ¬ F ub) (hvlF : ∀ g, vl.ownBlock = some g → g < w.heap.size ∧ ¬ F g) (hf : Fresh w (.slice (some ⟨g5, 0, none⟩) (L + 1) c5)) (kk3 : Kept (uf ub vl) w W3) (hN3w : New w vl v3) (hU3 : IsU W3 ub v3 (left ++ dl ++ pn ρ (adr y) ++ pn ρ (adr x)))
    (hM3 : IsNs W3 (Fw F w [v3, .slice (some ⟨g5, 0, none⟩) (L + 1) c5]) ρ (B ++ [y])) (ho3 : OwnsP 77 W3 (.slice (some ⟨g5, 0, none⟩) (L + 1) c5) ((B ++ [y]).map adr))
    (k310 : Kept (uf ub v3) W3 w10) (hU10 : IsU w10 ub vl4 (left ++ dl ++ pn ρ (adr y) ++ pn ρ (adr x) ++ d)) (hN10 : New W3 v3 vl4)
    (ho10 : OwnsP 100 w10 v68 (ia y ++ ia x)) (hf7 : Fresh W3 v68) (hr83 : ReadsP w10 v83 us) (hf83 : Fresh W3 v83) (hv83 : ∀ g, v83.ownBlock = some g → vl4.ownBlock ≠ some g ∧ g < w10.heap.size)
    (hmk : ∀ (w3 : World) (G3 : Nat → Prop) (S3 : List Nat) (zb : Nat), Kept S3 w10 w3 → (∀ s ∈ S3, ¬ G3 s) → (∀ b, (Fw F w [v3, .slice (some ⟨g5, 0, none⟩) (L + 1) c5] b ∨ W3.heap.size ≤ b) → vl4.ownBlock ≠ some b → b < w10.heap.size → G3 b) → ρ zb = (0, 0) → IsB w3 G3 zb (ρ zb) k (ia y ++ ia x) us → ∃ z : Tr k, adr z = zb ∧ IsN w3 G3 ρ z ∧ Mg ρ y x z (pn ρ (adr y) ++ pn ρ (adr x) ++ d))
    (HI : JInv ρ ls (B ++ [y]) j dl) (hx : ls[j]? = some x) (hfit : fil y + fil x ≤ 236) (hB : ρ w10.heap.size = (0, 0))
    (ho12 : OwnsP 77 ((w10.alloc (.cells #[.int .i64 0, .int .u64 0, .int .i64 (k : Int), v68, v83] 114)).setCell ⟨g5, L, none⟩ (.pointer (some ⟨w10.heap.size, 0, none⟩))) (.slice (some ⟨g5, 0, none⟩) (L + 1) c5) (B.map adr ++ [w10.heap.size])) :
    ∃ (M' : List (Tr k)) (dl' : List Nat), JInv ρ ls M' (j + 1) dl' ∧ OwnsP 77 ((w10.alloc (.cells #[.int .i64 0, .int .u64 0, .int .i64 (k : Int), v68, v83] 114)).setCell ⟨g5, L, none⟩ (.pointer (some ⟨w10.heap.size, 0, none⟩))) (.slice (some ⟨g5, 0, none⟩) (L + 1) c5) (M'.map adr) ∧ Fresh w (.slice (some ⟨g5, 0, none⟩) (L + 1) c5) ∧ IsU ((w10.alloc (.cells #[.int .i64 0, .int .u64 0, .int .i64 (k : Int), v68, v83] 114)).setCell ⟨g5, L, none⟩ (.pointer (some ⟨w10.heap.size, 0, none⟩))) ub vl4 (left ++ dl') ∧ Kept (uf ub vl) w ((w10.alloc (.cells #[.int .i64 0, .int .u64 0, .int .i64 (k : Int), v68, v83] 114)).setCell ⟨g5, L, none⟩ (.pointer (some ⟨w10.heap.size, 0, none⟩))) ∧ New w vl vl4 ∧ Hid (IsNs ((w10.alloc (.cells #[.int .i64 0, .int .u64 0, .int .i64 (k : Int), v68, v83] 114)).setCell ⟨g5, L, none⟩ (.pointer (some ⟨w10.heap.size, 0, none⟩))) (Fw F w [vl4, .slice (some ⟨g5, 0, none⟩) (L + 1) c5]) ρ M') := by
  have hg5 : w.heap.size ≤ g5 := hf g5 rfl
  have hg5l : g5 < W3.heap.size := ho3.lt rfl
  have hs3 := kk3.size
  have hs10 := k310.size
  have hg3 : v3.ownBlock ≠ some g5 := fun e => rows_apart ho3 hU3.own (by decide) e rfl
  have hg4 : vl4.ownBlock ≠ some g5 := fun e => by
    rcases hN10 g5 e with h | h
    · exact hg3 h
    · omega
  have hbox : (w10.alloc (.cells #[.int .i64 0, .int .u64 0, .int .i64 (k : Int), v68, v83] 114)).heap[w10.heap.size]? = some (.cells #[.int .i64 0, .int .u64 0, .int .i64 (k : Int), v68, v83] 114 (0, 0)) := heap_alloc_new w10 _
  have k11 : Kept [g5] w10 (w10.alloc (.cells #[.int .i64 0, .int .u64 0, .int .i64 (k : Int), v68, v83] 114)) := (Kept.refl [g5] w10).alloc _
  have k12 : Kept [g5] (w10.alloc (.cells #[.int .i64 0, .int .u64 0, .int .i64 (k : Int), v68, v83] 114)) ((w10.alloc (.cells #[.int .i64 0, .int .u64 0, .int .i64 (k : Int), v68, v83] 114)).setCell ⟨g5, L, none⟩ (.pointer (some ⟨w10.heap.size, 0, none⟩))) := (Kept.refl [g5] _).setCell (.inl (by simp)) _
  have kT := k11.trans k12 (fun b hb => .inl hb)
  have hbox2 := k12.keeps hbox (by simp; omega)
  generalize ((w10.alloc (.cells #[.int .i64 0, .int .u64 0, .int .i64 (k : Int), v68, v83] 114)).setCell ⟨g5, L, none⟩ (.pointer (some ⟨w10.heap.size, 0, none⟩))) = w12 at *
  have hG : ¬ Fw F w [vl4, .slice (some ⟨g5, 0, none⟩) (L + 1) c5] g5 := fun h => h.2 (.slice (some ⟨g5, 0, none⟩) (L + 1) c5) (by simp) rfl
  have hvl4 : ∀ g, vl4.ownBlock = some g → g < w10.heap.size := fun g hg => hU10.own.lt hg
  have hIB : IsB w12 (Fw F w [vl4, .slice (some ⟨g5, 0, none⟩) (L + 1) c5]) w10.heap.size (ρ w10.heap.size) k (ia y ++ ia x) us := by
    refine ⟨v68, v83, by rw [hB]; exact hbox2, ho10.reads.kept kT (fun g hg hm => ?_), hr83.kept kT (fun g hg hm => ?_), ⟨.inr (by omega), fun t ht e => ?_⟩, fun _ g hg => ⟨.inr (Nat.le_trans hs3 (hf7 g hg)), fun t ht e => ?_⟩, fun _ g hg => ⟨.inr (Nat.le_trans hs3 (hf83 g hg)), fun t ht e => ?_⟩⟩
    · simp at hm; subst hm; have := hf7 g hg; omega
    · simp at hm; subst hm; have := hf83 g hg; omega
    · simp at ht
      rcases ht with rfl | rfl
      · have := hvl4 _ e; omega
      · simp [Value.ownBlock] at e; omega
    · simp at ht
      rcases ht with rfl | rfl
      · exact rows_apart ho10 hU10.own (by decide) e hg
      · simp [Value.ownBlock] at e; subst e; have := hf7 g5 hg; omega
    · simp at ht
      rcases ht with rfl | rfl
      · exact (hv83 g hg).1 e
      · simp [Value.ownBlock] at e; subst e; have := hf83 g5 hg; omega
  obtain ⟨z, hz, hzN, hzM⟩ := hmk w12 (Fw F w [vl4, .slice (some ⟨g5, 0, none⟩) (L + 1) c5]) [g5] w10.heap.size kT (fun s hs => by simp at hs; subst hs; exact hG) (fun b hb hv hbl => by
    rcases hb with hb | hb
    · exact ⟨hb.1, fun t ht e => by
        simp at ht
        rcases ht with rfl | rfl
        · exact hv e
        · exact hb.2 _ (by simp) e⟩
    · exact ⟨.inr (by omega), fun t ht e => by
        simp at ht
        rcases ht with rfl | rfl
        · exact hv e
        · simp [Value.ownBlock] at e; omega⟩) hB hIB
  refine ⟨B ++ [z], dl ++ (pn ρ (adr y) ++ pn ρ (adr x) ++ d), HI.merge hx hfit hzM, ?_, hf, ?_, ?_, ?_, Hid.mk fun m hm => ?_⟩
  · rw [List.map_append]
    show OwnsP 77 w12 _ (B.map adr ++ [adr z])
    rw [hz]
    exact ho12
  · have := hU10.kept kT (by simp; omega) (fun g hg hm => by simp at hm; subst hm; exact hg4 hg)
    simpa [List.append_assoc] using this
  · refine (kk3.trans k310 (fun b hb => ?_)).trans kT (fun b hb => .inr (by simp at hb; omega))
    rcases mem_uf.1 hb with h | h
    · exact .inl (mem_uf.2 (.inl h))
    · rcases hN3w b h with h1 | h1
      · exact .inl (mem_uf.2 (.inr h1))
      · exact .inr h1
  · exact hN3w.trans hN10 hs3
  · rcases List.mem_append.1 hm with h | h
    · have h1 : IsN W3 (fun b => Fw F w [v3, .slice (some ⟨g5, 0, none⟩) (L + 1) c5] b ∧ b < W3.heap.size) ρ m := (hM3 m (by simp [h])).monoS fun b hb hfb => ⟨hfb, hb⟩
      have h2 := h1.kept k310 (fun b hb hfb => by
        rcases mem_uf.1 hb with h3 | h3
        · subst h3
          rcases hfb.1.1 with h4 | h4
          · exact hubF.2 h4
          · omega
        · exact hfb.1.2 v3 (by simp) h3)
      refine (h2.kept kT (fun b hb hfb => by simp at hb; subst hb; exact hfb.1.2 (.slice (some ⟨b, 0, none⟩) (L + 1) c5) (by simp) rfl)).mono fun b hb => ⟨hb.1.1, fun t ht e => ?_⟩
      simp at ht
      rcases ht with rfl | rfl
      · rcases hN10 b e with h3 | h3
        · exact hb.1.2 v3 (by simp) h3
        · have := hb.2; omega
      · exact hb.1.2 _ (by simp) e
    · simp at h
      subst h
      exact hzN
end Go.Proofs.YtgpbhlfdlkemjaaGreat
