import Derived.KernelRfl
import Derived.Test.YtgpbhlfdlkemjaaGreatQ11
/-
  The calls of a disk and its Pages, in the words of the texts.
-/
namespace Go.Proofs.YtgpbhlfdlkemjaaGreat
open Go.RowKit
set_option linter.unusedVariables false
/-- What has turned between w and w' is none of X. -/
def KX (X : List Nat) (w w' : World) : Prop := ∃ S, Kept S w w' ∧ ∀ x ∈ X, x ∉ S
theorem KX.of {X : List Nat} {w w' : World} (k : Kept [] w w') : KX X w w' := ⟨[], k, by simp⟩
theorem KX.refl (X : List Nat) (w : World) : KX X w w := KX.of (Kept.refl [] w)
theorem KX.size {X : List Nat} {w w' : World} (k : KX X w w') : w.heap.size ≤ w'.heap.size := by
  obtain ⟨S, k, hS⟩ := k
  exact k.size
/-- The Pages at p of the disk at q, made since w0, in no block of X. -/
def Sy (w0 w : World) (q p : Nat) (s : St) (fr ct : Nat) (L : List Ent) (fl X : List Nat) : Prop :=
  ∃ F G T, IsD w F q s ∧ IsP w G p q fr ct T fl ∧ T.Perm (ets L) ∧ (∀ x ∈ G, x ∉ F) ∧ Okp s fr ct L fl ∧ Kept [] w0 w ∧ ∀ x, x ∈ F ∨ x ∈ G → w0.heap.size ≤ x ∧ x ∉ X
section
variable {w0 w w' : World} {q p : Nat} {s : St} {fr ct : Nat} {L : List Ent} {fl X Y : List Nat}
theorem Sy.k (h : Sy w0 w q p s fr ct L fl X) : Kept [] w0 w := by obtain ⟨_, _, _, _, _, _, _, _, h, _⟩ := h; exact h
theorem Sy.ok (h : Sy w0 w q p s fr ct L fl X) : Okp s fr ct L fl := by obtain ⟨_, _, _, _, _, _, _, h, _, _⟩ := h; exact h
theorem Sy.turn (h : Sy w0 w q p s fr ct L fl X) {S : List Nat} (k : Kept S w w') (hS : ∀ x ∈ S, x ∈ X ∨ w.heap.size ≤ x) (h0 : ∀ x ∈ S, w0.heap.size ≤ x) : Sy w0 w' q p s fr ct L fl X := by
  obtain ⟨F, G, T, hD, hP, hT, hFG, hO, hK, hH⟩ := h
  refine ⟨F, G, T, hD.kept k (fun x hx hm => ?_), hP.kept k (fun x hx hm => ?_), hT, hFG, hO, hK.trans k (fun x hx => .inr (h0 x hx)), hH⟩
  · rcases hS x hm with h | h
    · exact (hH x (.inl hx)).2 h
    · have := hD.lt x hx; omega
  · rcases hS x hm with h | h
    · exact (hH x (.inr hx)).2 h
    · have := hP.lt x hx; omega
theorem Sy.kept (h : Sy w0 w q p s fr ct L fl X) (k : Kept [] w w') : Sy w0 w' q p s fr ct L fl X := h.turn k (by simp) (by simp)
/-- More blocks of the caller's, that are new. -/
theorem Sy.more (h : Sy w0 w q p s fr ct L fl X) (k : Kept [] w w') (hY : ∀ y ∈ Y, w.heap.size ≤ y) : Sy w0 w' q p s fr ct L fl (Y ++ X) := by
  obtain ⟨F, G, T, hD, hP, hT, hFG, hO, hK, hH⟩ := h
  refine ⟨F, G, T, hD.kept k (by simp), hP.kept k (by simp), hT, hFG, hO, hK.trans k (by simp), fun x hx => ⟨(hH x hx).1, fun hm => ?_⟩⟩
  rcases List.mem_append.1 hm with h | h
  · have := hY x h
    rcases hx with hx | hx
    · have := hD.lt x hx; omega
    · have := hP.lt x hx; omega
  · exact (hH x hx).2 h
theorem Sy.less (h : Sy w0 w q p s fr ct L fl X) (hY : ∀ y ∈ Y, y ∈ X) : Sy w0 w q p s fr ct L fl Y := by
  obtain ⟨F, G, T, hD, hP, hT, hFG, hO, hK, hH⟩ := h
  exact ⟨F, G, T, hD, hP, hT, hFG, hO, hK, fun x hx => ⟨(hH x hx).1, fun hm => (hH x hx).2 (hY x hm)⟩⟩
/-- Put, the power being on as long as it lasts. -/
theorem sy_put (h : Sy w0 w q p s fr ct L fl X) (a : Option Addr) (n c : Nat) (l : List UInt8) (hn : n = l.length) (hr : Reads w (.slice a n c) l) (hX : ∀ g, (Value.slice a n c).ownBlock = some g → g ∈ X ∨ g < w0.heap.size) (hXl : ∀ x ∈ X, x < w.heap.size) (hl : n ≤ 20000) (hk : bks n ≤ fl.length) (hd : s.down = false) (hf : s.fuse < 0 ∨ (bks n : Int) ≤ s.fuse) (hws : s.ws.length ≤ 90000) :
    Calls Tryz.prog 152 #[.pointer (some ⟨p, 0, none⟩), .slice a n c] w fun e w' => ∃ (nm : Nat) (vs : List Wr) (fu : Int), e = .returned (.tuple #[.int .i64 (nm : Int), .int .i64 0]) ∧ fl.head? = some nm ∧ vs.length = bks n ∧ (∀ x ∈ vs, x.1 ∈ fl.take (bks n)) ∧ (s.fuse < 0 → fu = s.fuse) ∧
      Sy w0 w' q p { s with ws := s.ws ++ vs, fuse := fu } fr ct (L ++ [(nm, fl.take (bks n), l)]) (fl.drop (bks n)) X ∧ KX X w w' := by
  subst hn
  obtain ⟨F, G, T, hD, hP, hT, hFG, hO, hK, hH⟩ := h
  obtain ⟨nm, hnm⟩ : ∃ nm, fl.head? = some nm := by
    cases fl with
    | nil => have := bks_pos l.length; simp at hk; omega
    | cons x r => exact ⟨x, rfl⟩
  have hfl := hO.few
  have har := hO.area
  have hnb := hO.nb
  have hTl : T.length = L.length := by rw [hT.length_eq]; simp [ets]
  have hlen : (fl.take (bks l.length)).length = bks l.length := by rw [List.length_take]; omega
  refine (put_any hD hP hFG hd a c l hr (fun g hg hm => ?_) hl hk (fun x hx => by have := hO.mem (List.mem_append.2 (.inr hx)); omega) (by omega) nm hnm (fun hm => ?_) (by omega) hws).mono ?_
  · have := hH g (.inl hm)
    rcases hX g hg with h | h
    · exact this.2 h
    · omega
  · rw [(hT.map (·.1)).mem_iff, ets_names] at hm
    exact hO.newName (List.mem_of_mem_head? hnm) hm
  · rintro e w' ⟨t, F', G', hD', k', nF, nG, hFG', hres⟩
    have hv0 : ∀ x ∈ wsOf t nm (fl.take (bks l.length)) l (bks l.length), x.1 ∈ fl.take (bks l.length) := fun x hx => by
      obtain ⟨j, hj, rfl⟩ := wsOf_mem _ _ _ _ _ _ hx
      exact getD_mem (by rw [hlen]; exact hj)
    have hv : ∀ x ∈ wsOf t nm (fl.take (bks l.length)) l (bks l.length), x.1 ∈ fl := fun x hx => List.mem_of_mem_take (hv0 x hx)
    have hwr := wrAll_ok (wsOf t nm (fl.take (bks l.length)) l (bks l.length)) s hd (fun x hx => ⟨by have := hO.mem (List.mem_append.2 (.inr (hv x hx))); omega, by obtain ⟨j, hj, rfl⟩ := wsOf_mem _ _ _ _ _ _ hx; exact pblk_len _ _ _ _ _⟩) (by rw [wsOf_length]; exact hf)
    rw [hwr] at hD' hres
    rcases hres with ⟨_, rfl, hP'⟩ | ⟨h, _⟩
    · refine ⟨nm, _, _, rfl, hnm, wsOf_length _ _ _ _ _, hv0, fun hs => by rw [if_pos hs], ⟨F', G', _, hD', hP', ?_, hFG', ?_, hK.trans k' (fun x hx => .inr (hH x (by simpa using hx)).1), fun x hx => ?_⟩, ⟨_, k', fun x hx hm => (hH x (by simpa using hm)).2 hx⟩⟩
      · have := hT.append_right [(nm, fl.take (bks l.length))]
        simpa [ets] using this
      · have h2 := hO.put t nm l hl hnm hk (if s.fuse < 0 then s.fuse else s.fuse - ((wsOf t nm (fl.take (bks l.length)) l (bks l.length)).length : Int)) false
        rw [← hd] at h2
        exact h2
      · have hh : x ∈ F ∨ x ∈ G ∨ w.heap.size ≤ x := by
          rcases hx with hx | hx
          · rcases nF x hx with h | h
            · exact .inl h
            · exact .inr (.inr h)
          · rcases nG x hx with h | h
            · exact .inr (.inl h)
            · exact .inr (.inr h)
        rcases hh with h | h | h
        · exact hH x (.inl h)
        · exact hH x (.inr h)
        · exact ⟨Nat.le_trans hK.size h, fun hm => by have := hXl x hm; omega⟩
    · exact absurd rfl h
/-- Put, the power failing. -/
theorem sy_put_lost (h : Sy w0 w q p s fr ct L fl X) (a : Option Addr) (n c : Nat) (l : List UInt8) (hn : n = l.length) (hr : Reads w (.slice a n c) l) (hX : ∀ g, (Value.slice a n c).ownBlock = some g → g ∈ X ∨ g < w0.heap.size) (hXl : ∀ x ∈ X, x < w.heap.size) (hl : n ≤ 20000) (hk : bks n ≤ fl.length) (hd : s.down = false) (f : Nat) (hf : s.fuse = (f : Int)) (hfl : f < bks n) (hws : s.ws.length ≤ 90000) :
    Calls Tryz.prog 152 #[.pointer (some ⟨p, 0, none⟩), .slice a n c] w fun e w' => e = .returned (.tuple #[.int .i64 0, .int .i64 9]) ∧ ∃ vs : List Wr, vs.length = f ∧
      Sy w0 w' q p { s with ws := s.ws ++ vs, fuse := 0, down := true } fr ct L fl X ∧ KX X w w' := by
  subst hn
  obtain ⟨F, G, T, hD, hP, hT, hFG, hO, hK, hH⟩ := h
  obtain ⟨nm, hnm⟩ : ∃ nm, fl.head? = some nm := by
    cases fl with
    | nil => have := bks_pos l.length; simp at hk; omega
    | cons x r => exact ⟨x, rfl⟩
  have hfl' := hO.few
  have har := hO.area
  have hnb := hO.nb
  have hTl : T.length = L.length := by rw [hT.length_eq]; simp [ets]
  have hlen : (fl.take (bks l.length)).length = bks l.length := by rw [List.length_take]; omega
  refine (put_any hD hP hFG hd a c l hr (fun g hg hm => ?_) hl hk (fun x hx => by have := hO.mem (List.mem_append.2 (.inr hx)); omega) (by omega) nm hnm (fun hm => ?_) (by omega) hws).mono ?_
  · have := hH g (.inl hm)
    rcases hX g hg with h | h
    · exact this.2 h
    · omega
  · rw [(hT.map (·.1)).mem_iff, ets_names] at hm
    exact hO.newName (List.mem_of_mem_head? hnm) hm
  · rintro e w' ⟨t, F', G', hD', k', nF, nG, hFG', hres⟩
    have hv : ∀ x ∈ wsOf t nm (fl.take (bks l.length)) l (bks l.length), x.1 ∈ fl := fun x hx => by
      obtain ⟨j, hj, rfl⟩ := wsOf_mem _ _ _ _ _ _ hx
      exact List.mem_of_mem_take (getD_mem (by rw [hlen]; exact hj))
    have hwr := wrAll_lost (wsOf t nm (fl.take (bks l.length)) l (bks l.length)) s f hd (fun x hx => ⟨by have := hO.mem (List.mem_append.2 (.inr (hv x hx))); omega, by obtain ⟨j, hj, rfl⟩ := wsOf_mem _ _ _ _ _ _ hx; exact pblk_len _ _ _ _ _⟩) hf (by rw [wsOf_length]; exact hfl)
    rw [hwr] at hD' hres
    rcases hres with ⟨h, _⟩ | ⟨_, rfl, hP'⟩
    · exact absurd h (by simp)
    · refine ⟨rfl, _, by rw [List.length_take, wsOf_length]; omega, ⟨F', G', _, hD', hP', hT, hFG', hO.wrote _ (fun x hx => hv x (List.mem_of_mem_take hx)) 0 true, hK.trans k' (fun x hx => .inr (hH x (by simpa using hx)).1), fun x hx => ?_⟩, ⟨_, k', fun x hx hm => (hH x (by simpa using hm)).2 hx⟩⟩
      have hh : x ∈ F ∨ x ∈ G ∨ w.heap.size ≤ x := by
        rcases hx with hx | hx
        · rcases nF x hx with h | h
          · exact .inl h
          · exact .inr (.inr h)
        · rcases nG x hx with h | h
          · exact .inr (.inl h)
          · exact .inr (.inr h)
      rcases hh with h | h | h
      · exact hH x (.inl h)
      · exact hH x (.inr h)
      · exact ⟨Nat.le_trans hK.size h, fun hm => by have := hXl x hm; omega⟩
theorem sy_put_full (h : Sy w0 w q p s fr ct L fl X) (a : Option Addr) (n c : Nat) (hl : n ≤ 20000) (hf : fl.length < bks n) :
    Calls Tryz.prog 152 #[.pointer (some ⟨p, 0, none⟩), .slice a n c] w fun e w' => e = .returned (.tuple #[.int .i64 0, .int .i64 6]) ∧ w = w' := by
  obtain ⟨F, G, T, hD, hP, hT, hFG, hO, hK, hH⟩ := h
  exact put_full hP a n c hl hf
theorem sy_get (h : Sy w0 w q p s fr ct L fl X) (hd : s.down = false) (x : Ent) (hx : x ∈ L) :
    Calls Tryz.prog 67 #[.pointer (some ⟨p, 0, none⟩), .int .i64 (x.1 : Int)] w fun e w' => ∃ v, e = .returned (.tuple #[v, .int .i64 0]) ∧ Owns 5 w' v x.2.2 ∧ Kept [] w w' ∧ Fresh w v := by
  obtain ⟨F, G, T, hD, hP, hT, hFG, hO, hK, hH⟩ := h
  exact get_ok hD hP hd hO.area x.1 x.2.1 x.2.2 (hT.mem_iff.2 (List.mem_map.2 ⟨x, hx, rfl⟩)) (hO.lies x hx) (fun b hb => hO.mem (List.mem_append.2 (.inl (mem_bls.2 ⟨x, hx, hb⟩))))
theorem Sy.noName (h : Sy w0 w q p s fr ct L fl X) {k : Int} (hk : ∀ x ∈ L, (x.1 : Int) ≠ k) {T : List (Nat × List Nat)} (hT : T.Perm (ets L)) : ∀ x ∈ T, (x.1 : Int) ≠ k := fun x hx => by
  rw [hT.mem_iff] at hx
  obtain ⟨y, hy, rfl⟩ := List.mem_map.1 hx
  exact hk y hy
theorem sy_get_none (h : Sy w0 w q p s fr ct L fl X) (k : Int) (hw : (Lit.int .i64 k).wf = true) (hk : ∀ x ∈ L, (x.1 : Int) ≠ k) :
    Calls Tryz.prog 67 #[.pointer (some ⟨p, 0, none⟩), .int .i64 k] w fun e w' => e = .returned (.tuple #[.slice none 0 0, .int .i64 5]) ∧ w = w' := by
  have h' := h
  obtain ⟨F, G, T, hD, hP, hT, hFG, hO, hK, hH⟩ := h
  exact get_none hP k hw (h'.noName hk hT)
theorem sy_drop_none (h : Sy w0 w q p s fr ct L fl X) (k : Int) (hw : (Lit.int .i64 k).wf = true) (hk : ∀ x ∈ L, (x.1 : Int) ≠ k) :
    Calls Tryz.prog 54 #[.pointer (some ⟨p, 0, none⟩), .int .i64 k] w fun e w' => e = .returned (.int .i64 5) ∧ w = w' := by
  have h' := h
  obtain ⟨F, G, T, hD, hP, hT, hFG, hO, hK, hH⟩ := h
  exact drop_none hP k hw (h'.noName hk hT)
theorem sy_drop {A B : List Ent} {x : Ent} (h : Sy w0 w q p s fr ct (A ++ x :: B) fl X) (hXl : ∀ x ∈ X, x < w.heap.size) :
    Calls Tryz.prog 54 #[.pointer (some ⟨p, 0, none⟩), .int .i64 (x.1 : Int)] w fun e w' => e = .returned (.int .i64 0) ∧ Sy w0 w' q p s fr ct (A ++ B) (fl ++ x.2.1) X ∧ KX X w w' := by
  obtain ⟨F, G, T, hD, hP, hT, hFG, hO, hK, hH⟩ := h
  have hlen := hO.length
  have har := hO.area
  have hnb := hO.nb
  refine (drop_ok hP x.1 x.2.1 (hT.mem_iff.2 (List.mem_map.2 ⟨x, by simp, rfl⟩)) (by rw [bls_append, bls_cons, List.length_append, List.length_append] at hlen; omega)).mono ?_
  rintro e w' ⟨rfl, G', hP', k', nG⟩
  have hFK : ∀ y ∈ F, y ∉ G := fun y hy hg => hFG y hg hy
  refine ⟨rfl, ⟨F, G', _, hD.kept k' hFK, hP', ?_, fun y hy hf => ?_, hO.drop, hK.trans k' (fun y hy => .inr (hH y (.inr hy)).1), fun y hy => ?_⟩, ⟨_, k', fun y hy hm => (hH y (.inr hm)).2 hy⟩⟩
  · have hno := hO.names
    have h1 := hT.filter fun y => y.1 != x.1
    refine h1.trans (List.Perm.of_eq ?_)
    unfold ets
    rw [List.map_append, List.map_cons, List.filter_append, List.filter_cons, List.map_append]
    rw [List.map_append, List.map_cons] at hno
    have hA : ∀ y ∈ A, y.1 ≠ x.1 := fun y hy => (List.nodup_append.1 hno).2.2 y.1 (List.mem_map.2 ⟨y, hy, rfl⟩) x.1 (by simp)
    have hB : ∀ y ∈ B, y.1 ≠ x.1 := fun y hy e => ((List.nodup_cons.1 (List.nodup_append.1 hno).2.1).1) (e ▸ List.mem_map.2 ⟨y, hy, rfl⟩)
    rw [if_neg (by simp), List.filter_eq_self.2 (fun y hy => by obtain ⟨z, hz, rfl⟩ := List.mem_map.1 hy; simpa using hA z hz), List.filter_eq_self.2 (fun y hy => by obtain ⟨z, hz, rfl⟩ := List.mem_map.1 hy; simpa using hB z hz)]
  · rcases nG y hy with h | h
    · exact hFG y h hf
    · have := hD.lt y hf; omega
  · rcases hy with hy | hy
    · exact hH y (.inl hy)
    · rcases nG y hy with h | h
      · exact hH y (.inr h)
      · exact ⟨Nat.le_trans hK.size h, fun hm => by have := hXl y hm; omega⟩
theorem sy_blocks (h : Sy w0 w q p s fr ct L fl X) (x : Ent) (hx : x ∈ L) :
    Calls Tryz.prog 65 #[.pointer (some ⟨p, 0, none⟩), .int .i64 (x.1 : Int)] w fun e w' => ∃ v, e = .returned v ∧ FrS w' v x.2.1 ∧ Kept [] w w' ∧ Fresh w v := by
  obtain ⟨F, G, T, hD, hP, hT, hFG, hO, hK, hH⟩ := h
  exact blocks_ok hP x.1 x.2.1 (hT.mem_iff.2 (List.mem_map.2 ⟨x, hx, rfl⟩)) (by have := (hO.lies x hx).len; have := bks_le (hO.lies x hx).long; omega)
/-- The numbers ns, each once, rising. -/
def Rises (ns : List Nat) (l : List Nat) : Prop := ns.Perm l ∧ ns.Pairwise (· < ·)
theorem rises_of {zs : List Int} {l : List Nat} (h : zs.Perm (l.map fun (n : Nat) => (n : Int))) (hn : l.Nodup) : Rises ((zs.mergeSort leI).map Int.toNat) l := by
  have tr : ∀ a b c : Int, leI a b = true → leI b c = true → leI a c = true := fun a b c h1 h2 => by simp only [leI, decide_eq_true_eq] at *; exact Int.le_trans h1 h2
  have to : ∀ a b : Int, (leI a b || leI b a) = true := fun a b => by simp only [leI, Bool.or_eq_true, decide_eq_true_eq]; exact Int.le_total a b
  have hp : ((zs.mergeSort leI).map Int.toNat).Perm l := by
    refine (((List.mergeSort_perm zs leI).trans h).map Int.toNat).trans (List.Perm.of_eq ?_)
    rw [List.map_map]
    simp [Function.comp_def]
  have hpos : ∀ z ∈ zs.mergeSort leI, 0 ≤ z := fun z hz => by
    obtain ⟨n, _, rfl⟩ := List.mem_map.1 (h.mem_iff.1 (List.mem_mergeSort.1 hz))
    omega
  refine ⟨hp, ?_⟩
  have hs := List.pairwise_mergeSort tr to zs
  have hd : ((zs.mergeSort leI).map Int.toNat).Nodup := (hp.nodup_iff).2 hn
  refine List.pairwise_map.2 ((hs.and (List.pairwise_map.1 hd)).imp_of_mem fun {a b} ha hb hab => ?_)
  have h1 := hpos a ha
  have h2 := hpos b hb
  have h3 := hab.1
  have h4 := hab.2
  simp only [leI, decide_eq_true_eq] at h3
  omega
theorem sy_names (h : Sy w0 w q p s fr ct L fl X) :
    Calls Tryz.prog 27 #[.pointer (some ⟨p, 0, none⟩)] w fun e w' => ∃ v ns, e = .returned v ∧ OwnsI w' v ns ∧ Rises ns (L.map (·.1)) ∧ Kept [] w w' ∧ Fresh w v := by
  obtain ⟨F, G, T, hD, hP, hT, hFG, hO, hK, hH⟩ := h
  have hfl := hO.few
  have har := hO.area
  have hnb := hO.nb
  have hTl : T.length = L.length := by rw [hT.length_eq]; simp [ets]
  refine (names_int hP (by omega)).mono ?_
  rintro e w' ⟨v, ss, rfl, hS, hrow, hb⟩
  have hS2 : ss.Perm ((L.map (·.1)).map fun (n : Nat) => (n : Int)) := by
    refine hS.trans ((hT.map fun x => (x.1 : Int)).trans (List.Perm.of_eq ?_))
    simp [ets]
  have hR := rises_of hS2 hO.names
  have hpos : ∀ z ∈ ss.mergeSort leI, 0 ≤ z := fun z hz => by
    obtain ⟨n, _, rfl⟩ := List.mem_map.1 (hS2.mem_iff.1 (List.mem_mergeSort.1 hz))
    omega
  have hrow2 : w'.ownsRow w.heap.size 3 1 v (ss.mergeSort leI).length ((ss.mergeSort leI).map encZ) := by rw [List.length_mergeSort]; exact hrow
  obtain ⟨hO2, hF2⟩ := ownsI_of hrow2 hpos
  exact ⟨v, _, rfl, hO2, hR, Below.kept hb, hF2⟩
theorem sy_free (h : Sy w0 w q p s fr ct L fl X) :
    Calls Tryz.prog 16 #[.pointer (some ⟨p, 0, none⟩)] w fun e w' => ∃ v ns, e = .returned v ∧ OwnsI w' v ns ∧ Rises ns fl ∧ Kept [] w w' ∧ Fresh w v := by
  obtain ⟨F, G, T, hD, hP, hT, hFG, hO, hK, hH⟩ := h
  have hfl := hO.few
  have har := hO.area
  have hnb := hO.nb
  refine (free_int hP (by omega)).mono ?_
  rintro e w' ⟨v, rfl, hO2, k2, hF2⟩
  exact ⟨v, _, rfl, hO2, rises_of (List.Perm.refl _) (List.nodup_append.1 hO.nodup).2.1, k2, hF2⟩
theorem sy_writes (h : Sy w0 w q p s fr ct L fl X) : Calls Tryz.prog 28 #[.pointer (some ⟨q, 0, none⟩)] w fun e w' => e = .returned (.int .i64 (s.ws.length : Int)) ∧ w = w' := by
  obtain ⟨F, G, T, hD, hP, hT, hFG, hO, hK, hH⟩ := h
  exact writes_any hD
theorem sy_fuse (h : Sy w0 w q p s fr ct L fl X) (f : Nat) (hf : f ≤ 1000) :
    Calls Tryz.prog 30 #[.pointer (some ⟨q, 0, none⟩), .int .i64 (f : Int)] w fun e w' => e = .returned (.tuple #[]) ∧ Sy w0 w' q p { s with fuse := (f : Int) } fr ct L fl X ∧ KX X w w' := by
  obtain ⟨F, G, T, hD, hP, hT, hFG, hO, hK, hH⟩ := h
  refine (setfuse_any hD f (by omega) (by omega)).mono ?_
  rintro e w' ⟨rfl, hD', k'⟩
  have e1 : fuseS s f = { s with fuse := (f : Int) } := by unfold fuseS; rw [show max (f : Int) (-1) = f by omega]
  rw [e1] at hD'
  exact ⟨rfl, ⟨F, G, T, hD', hP.kept k' hFG, hT, hFG, hO.turned f s.down, hK.trans k' (fun x hx => .inr (hH x (.inl hx)).1), hH⟩, ⟨_, k', fun x hx hm => (hH x (.inl hm)).2 hx⟩⟩
theorem sy_restart (h : Sy w0 w q p s fr ct L fl X) :
    Calls Tryz.prog 32 #[.pointer (some ⟨q, 0, none⟩)] w fun e w' => e = .returned (.tuple #[]) ∧ Sy w0 w' q p { s with fuse := -1, down := false } fr ct L fl X ∧ KX X w w' := by
  obtain ⟨F, G, T, hD, hP, hT, hFG, hO, hK, hH⟩ := h
  refine (restart_any hD).mono ?_
  rintro e w' ⟨rfl, hD', k'⟩
  exact ⟨rfl, ⟨F, G, T, hD', hP.kept k' hFG, hT, hFG, hO.turned (-1) false, hK.trans k' (fun x hx => .inr (hH x (.inl hx)).1), hH⟩, ⟨_, k', fun x hx hm => (hH x (.inl hm)).2 hx⟩⟩
/-- Open of a disk, with the names of texts that lie there. -/
theorem open_texts {F : List Nat} (hD : IsD w F q s) (hd : s.down = false) (h1 : 1 ≤ ct) (ha : fr + ct ≤ s.nb) (hL : ∀ x ∈ L, Lies (blk s.ws) x.1 x.2.1 x.2.2) (hn : (bls L).Nodup) (hin : ∀ b ∈ bls L, fr ≤ b ∧ b < fr + ct) (hLl : L.length ≤ 1000) (a : Option Addr) (m c : Nat) (hm : m = L.length) (hr : ReadsI w (.slice a m c) (L.map (·.1))) (hK : Kept [] w0 w) (hF : ∀ x ∈ F, w0.heap.size ≤ x ∧ x ∉ X) (hXl : ∀ x ∈ X, x < w.heap.size) :
    Calls Tryz.prog 11 #[.pointer (some ⟨q, 0, none⟩), .int .i64 (fr : Int), .int .i64 (ct : Int), .slice a m c] w fun e w' => ∃ p2 fl2, e = .returned (.tuple #[.pointer (some ⟨p2, 0, none⟩), .int .i64 0]) ∧ Sy w0 w' q p2 s fr ct L fl2 X ∧ Kept [] w w' := by
  have hself : ∀ x ∈ L, x.1 ∈ x.2.1 := fun x hx => List.mem_of_mem_head? (hL x hx).first
  have hnm : (L.map (·.1)).Nodup := by
    unfold bls at hn
    exact List.pairwise_map.2 ((List.pairwise_flatMap.1 hn).2.imp_of_mem fun {x y} hx hy hp => hp x.1 (hself x hx) y.1 (hself y hy))
  have hnb := hD.ok.nb
  have hlen : (L.map (·.1)).length = m := by rw [List.length_map, hm]
  have hc := openP_any hD hd h1 ha (L.map (·.1)) (by rw [hlen]; omega) (fun x hx => by obtain ⟨y, hy, rfl⟩ := List.mem_map.1 hx; have := hin y.1 (mem_bls.2 ⟨y, hy, hself y hy⟩); omega) a c (by rw [hlen]; exact hr) (ets L)
    ⟨fun x hx => by obtain ⟨y, hy, rfl⟩ := List.mem_map.1 hx; exact ⟨_, hL y hy⟩, fun x hx b hb => by obtain ⟨y, hy, rfl⟩ := List.mem_map.1 hx; exact hin b (mem_bls.2 ⟨y, hy, hb⟩), by rw [ets_names]; exact hnm⟩ true (fun k hk => by rw [← List.getElem?_map, ets_names]) (.inl ⟨rfl, by rw [hlen, hm]; simp [ets]⟩)
  rw [hlen] at hc
  refine hc.mono ?_
  rintro e w' ⟨k', ⟨_, p2, G, rfl, hP, hG⟩ | ⟨h, _⟩⟩
  · refine ⟨p2, _, rfl, ⟨F, G, _, hD.kept k' (by simp), hP, List.Perm.refl _, fun x hx hf => ?_, ⟨hL, freeOf_perm hn hin, ha, h1, hnb⟩, hK.trans k' (by simp), fun x hx => ?_⟩, k'⟩
    · have := hG x hx; have := hD.lt x hf; omega
    · rcases hx with hx | hx
      · exact hF x hx
      · exact ⟨Nat.le_trans hK.size (hG x hx), fun hm => by have := hXl x hm; have := hG x hx; omega⟩
  · cases h
/-- Open anew. -/
theorem sy_open (h : Sy w0 w q p s fr ct L fl X) (hd : s.down = false) (hLl : L.length ≤ 1000) (a : Option Addr) (m c : Nat) (hm : m = L.length) (hr : ReadsI w (.slice a m c) (L.map (·.1))) (hXl : ∀ x ∈ X, x < w.heap.size) :
    Calls Tryz.prog 11 #[.pointer (some ⟨q, 0, none⟩), .int .i64 (fr : Int), .int .i64 (ct : Int), .slice a m c] w fun e w' => ∃ p2 fl2, e = .returned (.tuple #[.pointer (some ⟨p2, 0, none⟩), .int .i64 0]) ∧ Sy w0 w' q p2 s fr ct L fl2 X ∧ Kept [] w w' := by
  obtain ⟨F, G, T, hD, hP, hT, hFG, hO, hK, hH⟩ := h
  exact open_texts hD hd hO.one hO.area hO.lies (List.nodup_append.1 hO.nodup).1 (fun b hb => hO.mem (List.mem_append.2 (.inl hb))) hLl a m c hm hr hK (fun x hx => hH x (.inl hx)) hXl
end
/-- A new disk, and its Pages. -/
theorem sy_new {w0 w : World} (k : Kept [] w0 w) (nb fr ct : Nat) (hnb : nb ≤ 65536) (hc : 1 ≤ ct) (ha : fr + ct ≤ nb) :
    Calls Tryz.prog 12 #[.int .i64 (nb : Int)] w fun e w1 => ∃ q, e = .returned (.pointer (some ⟨q, 0, none⟩)) ∧ Kept [] w w1 ∧ ∀ w2, Kept [] w1 w2 → Calls Tryz.prog 11 #[.pointer (some ⟨q, 0, none⟩), .int .i64 (fr : Int), .int .i64 (ct : Int), .slice none 0 0] w2 fun e w' => ∃ p fl, e = .returned (.tuple #[.pointer (some ⟨p, 0, none⟩), .int .i64 0]) ∧ fl.length = ct ∧ Sy w0 w' q p ⟨nb, [], -1, false⟩ fr ct [] fl [] ∧ Kept [] w2 w' := by
  refine (new_nb nb hnb w).mono fun e w1 ⟨q, heq, F, hD, k1, nF⟩ => ⟨q, heq, k1, fun w2 k2 => ?_⟩
  refine (open_texts (w0 := w0) (L := []) (X := []) (hD.kept k2 (by simp)) rfl hc ha (by simp) (by simp [bls]) (by simp [bls]) (by simp) none 0 0 rfl (ReadsI.nil w2) ((k.trans k1 (by simp)).trans k2 (by simp)) (fun x hx => ⟨Nat.le_trans k.size (nF x hx), by simp⟩) (by simp)).mono ?_
  rintro e w' ⟨p, fl, rfl, hS, k3⟩
  have := hS.ok.length
  exact ⟨p, fl, rfl, by simpa [bls] using this, hS, k3⟩
theorem Reads.keptX {X : List Nat} {w w' : World} {v : Value} {l : List UInt8} (h : Reads w v l) (k : KX X w w') (hX : ∀ g, v.ownBlock = some g → g ∈ X) : Reads w' v l := by
  obtain ⟨S, k, hS⟩ := k
  exact h.kept k (fun g hg => hS g (hX g hg))
theorem OwnsI.keptX {X : List Nat} {w w' : World} {v : Value} {l : List Nat} (h : OwnsI w v l) (k : KX X w w') (hX : ∀ g, v.ownBlock = some g → g ∈ X) : OwnsI w' v l := by
  obtain ⟨S, k, hS⟩ := k
  exact h.kept k (fun g hg => hS g (hX g hg))
end Go.Proofs.YtgpbhlfdlkemjaaGreat
/-
  Trees, plainly: items, nodes by their level, how full they are, how changes are laid into rising items.
-/
namespace Go.Proofs.YtgpbhlfdlkemjaaGreat
set_option linter.unusedVariables false

/-- An item: its block in memory, its key, its value. -/
structure Itm where
  ad : Nat
  key : List UInt8
  val : List UInt8
deriving DecidableEq
/-- How many bytes an item takes in a leaf. -/
def isz (i : Itm) : Nat := if 236 < 3 + i.key.length + i.val.length then 14 + i.key.length else 3 + i.key.length + i.val.length
/-- Has it a text of its own? -/
def lng (i : Itm) : Bool := decide (236 < 3 + i.key.length + i.val.length)
/-- A node of a level: its block in memory, and its items, or the nodes under it. -/
@[reducible] def Tr : Nat → Type
  | 0 => Nat × List Itm
  | k + 1 => Nat × List (Tr k)
def adr : {k : Nat} → Tr k → Nat
  | 0, n => n.1
  | _ + 1, n => n.1
def its : {k : Nat} → Tr k → List Itm
  | 0, n => n.2
  | k + 1, n => n.2.flatMap (its (k := k))
def fil : {k : Nat} → Tr k → Nat
  | 0, n => (n.2.map isz).sum
  | _ + 1, n => n.2.length * 10
theorem its_zero (n : Tr 0) : its n = n.2 := rfl
theorem its_succ {k : Nat} (n : Tr (k + 1)) : its n = n.2.flatMap its := rfl
/-- Two that lie side by side don't fit into one. -/
def Apart {α : Type} (f : α → Nat) (l : List α) : Prop := ∀ A a b B, l = A ++ a :: b :: B → 236 < f a + f b
section
variable {α : Type} {f : α → Nat} {l A B : List α} {a b : α}
theorem Apart.nil : Apart f [] := fun A a b B h => by simp at h
theorem Apart.one : Apart f [a] := fun A x y B h => by
  have := congrArg List.length h
  simp at this
  omega
theorem Apart.inner (h : Apart f (A ++ l ++ B)) : Apart f l := fun C x y D e => h (A ++ C) x y (D ++ B) (by rw [e]; simp)
theorem Apart.snoc (h : Apart f (l ++ [a])) (hab : 236 < f a + f b) : Apart f (l ++ [a] ++ [b]) := fun C x y D e => by
  rcases List.eq_nil_or_concat D with rfl | ⟨D', d, rfl⟩
  · have e2 : l ++ [a] ++ [b] = (C ++ [x]) ++ [y] := by simpa using e
    obtain ⟨h1, h2⟩ := List.append_inj' e2 rfl
    obtain ⟨h3, h4⟩ := List.append_inj' h1 rfl
    simp at h2 h4
    subst h2
    subst h4
    exact hab
  · have e2 : l ++ [a] ++ [b] = (C ++ x :: y :: D') ++ [d] := by simpa using e
    obtain ⟨h1, h2⟩ := List.append_inj' e2 rfl
    exact h C x y D' h1
theorem Apart.grow (h : Apart f (l ++ [a])) (hab : f a ≤ f b) : Apart f (l ++ [b]) := fun C x y D e => by
  rcases List.eq_nil_or_concat D with rfl | ⟨D', d, rfl⟩
  · have e2 : l ++ [b] = (C ++ [x]) ++ [y] := by simpa using e
    obtain ⟨h1, h2⟩ := List.append_inj' e2 rfl
    simp at h2
    subst h2
    have := h C x a [] (by rw [h1]; simp)
    omega
  · have e2 : l ++ [b] = (C ++ x :: y :: D') ++ [d] := by simpa using e
    obtain ⟨h1, h2⟩ := List.append_inj' e2 rfl
    exact h C x y (D' ++ [a]) (by rw [h1]; simp)
end
/-- A node as it is in a tree: full enough, not too full, also below it. -/
def Wf : {k : Nat} → Tr k → Prop
  | 0, n => n.2 ≠ [] ∧ fil (k := 0) n ≤ 236
  | k + 1, n => n.2 ≠ [] ∧ n.2.length ≤ 23 ∧ (∀ u ∈ n.2, Wf (k := k) u) ∧ Apart (fil (k := k)) n.2
theorem Wf.fil : {k : Nat} → {n : Tr k} → Wf n → fil n ≤ 236
  | 0, _, h => h.2
  | _ + 1, n, h => by have := h.2.1; show n.2.length * 10 ≤ 236; omega
theorem Wf.some : {k : Nat} → {n : Tr k} → Wf n → its n ≠ []
  | 0, _, h => h.1
  | k + 1, n, h => by
    obtain ⟨h1, _, h3, _⟩ := h
    cases e : n.2 with
    | nil => exact absurd e h1
    | cons u r =>
      rw [its_succ, e]
      intro hn
      rw [List.flatMap_cons, List.append_eq_nil_iff] at hn
      exact Wf.some (h3 u (by rw [e]; simp)) hn.1
/-- Items rise by their keys. -/
def Up (l : List Itm) : Prop := l.Pairwise fun a b => a.key < b.key
theorem klt_irrefl (a : List UInt8) : ¬ a < a := List.lt_irrefl a
theorem klt_trans {a b c : List UInt8} (h : a < b) (h' : b < c) : a < c := List.lt_trans h h'
theorem klt_asymm {a b : List UInt8} (h : a < b) : ¬ b < a := List.lt_asymm h
theorem klt_total {a b : List UInt8} (h : ¬ a < b) (h' : a ≠ b) : b < a := by
  refine Classical.byContradiction fun h2 => h' (List.le_antisymm ?_ ?_)
  · exact List.not_lt.1 h2
  · exact List.not_lt.1 h
theorem Up.append {A B : List Itm} : Up (A ++ B) ↔ Up A ∧ Up B ∧ ∀ a ∈ A, ∀ b ∈ B, a.key < b.key := List.pairwise_append
theorem Up.filter {A : List Itm} (h : Up A) (p : Itm → Bool) : Up (A.filter p) := List.Pairwise.sublist List.filter_sublist h
/-- A change: a key, and its new item, or none. -/
abbrev Chg := List UInt8 × Option Itm
/-- Changes that rise by their keys, laid into items that do. -/
def mrg : List Itm → List Chg → List Itm
  | is, [] => is
  | is, c :: cs => is.filter (fun i => decide (i.key < c.1)) ++ c.2.toList ++ mrg (is.filter fun i => decide (c.1 < i.key)) cs
def ChUp (cs : List Chg) : Prop := cs.Pairwise fun a b => a.1 < b.1
/-- Each new item is of its change's key. -/
def ChOk (cs : List Chg) : Prop := ∀ c ∈ cs, ∀ i, c.2 = some i → i.key = c.1
theorem mem_mrg : ∀ (cs : List Chg) (is : List Itm), ChUp cs → ∀ i, i ∈ mrg is cs ↔ (∃ c ∈ cs, c.2 = some i) ∨ (i ∈ is ∧ ∀ c ∈ cs, c.1 ≠ i.key)
  | [], is, _, i => by simp [mrg]
  | c :: cs, is, h, i => by
    obtain ⟨h1, h2⟩ := List.pairwise_cons.1 h
    simp only [mrg, List.mem_append, List.mem_filter, decide_eq_true_eq, Option.mem_toList, mem_mrg cs _ h2, List.mem_cons]
    constructor
    · rintro ((⟨h3, h4⟩ | h3) | ⟨d, hd, he⟩ | ⟨⟨h3, h4⟩, h5⟩)
      · refine .inr ⟨h3, fun d hd e => ?_⟩
        rcases hd with rfl | hd
        · exact klt_irrefl _ (e ▸ h4)
        · exact klt_irrefl _ (klt_trans (e ▸ h1 d hd) h4)
      · exact .inl ⟨c, .inl rfl, h3⟩
      · exact .inl ⟨d, .inr hd, he⟩
      · refine .inr ⟨h3, fun d hd e => ?_⟩
        rcases hd with rfl | hd
        · exact klt_irrefl _ (e ▸ h4)
        · exact h5 d hd e
    · rintro (⟨d, rfl | hd, he⟩ | ⟨h3, h4⟩)
      · exact .inl (.inr he)
      · exact .inr (.inl ⟨d, hd, he⟩)
      · by_cases hlt : i.key < c.1
        · exact .inl (.inl ⟨h3, hlt⟩)
        · exact .inr (.inr ⟨⟨h3, klt_total hlt (fun e => h4 c (.inl rfl) e.symm)⟩, fun d hd => h4 d (.inr hd)⟩)
theorem up_mrg : ∀ (cs : List Chg) (is : List Itm), ChUp cs → ChOk cs → Up is → Up (mrg is cs)
  | [], is, _, _, h => h
  | c :: cs, is, h, ho, hu => by
    obtain ⟨h1, h2⟩ := List.pairwise_cons.1 h
    have hg : ∀ i ∈ mrg (is.filter fun i => decide (c.1 < i.key)) cs, c.1 < i.key := fun i hi => by
      rcases (mem_mrg cs _ h2 i).1 hi with ⟨d, hd, he⟩ | ⟨h3, _⟩
      · rw [ho d (by simp [hd]) i he]; exact h1 d hd
      · simpa using (List.mem_filter.1 h3).2
    have hl : ∀ i ∈ is.filter (fun i => decide (i.key < c.1)), i.key < c.1 := fun i hi => by simpa using (List.mem_filter.1 hi).2
    have hc : ∀ i ∈ c.2.toList, i.key = c.1 := fun i hi => ho c (by simp) i (by simpa using hi)
    refine Up.append.2 ⟨Up.append.2 ⟨hu.filter _, ?_, fun a ha b hb => by rw [hc b hb]; exact hl a ha⟩, up_mrg cs _ h2 (fun d hd => ho d (by simp [hd])) (hu.filter _), fun a ha b hb => ?_⟩
    · cases c.2 with
      | none => exact List.Pairwise.nil
      | some i => exact List.pairwise_singleton _ _
    · rcases List.mem_append.1 ha with ha | ha
      · exact klt_trans (hl a ha) (hg b hb)
      · rw [hc a ha]; exact hg b hb
theorem filter_all {A : List Itm} {p : Itm → Bool} (h : ∀ a ∈ A, p a = true) : A.filter p = A := List.filter_eq_self.2 h
theorem filter_none {A : List Itm} {p : Itm → Bool} (h : ∀ a ∈ A, p a = false) : A.filter p = [] := List.filter_eq_nil_iff.2 fun a ha => by simp [h a ha]
theorem mrg_right (A B : List Itm) : ∀ (cs : List Chg), (∀ c ∈ cs, ∀ a ∈ A, a.key < c.1) → mrg (A ++ B) cs = A ++ mrg B cs
  | [], _ => rfl
  | c :: cs, h => by
    have h1 := h c (by simp)
    simp only [mrg, List.filter_append]
    rw [filter_all (A := A) (fun a ha => by simpa using h1 a ha), filter_none (A := A) (fun a ha => by simpa using klt_asymm (h1 a ha))]
    simp
theorem mrg_append : ∀ (cs ds : List Chg) (A B : List Itm), (∀ c ∈ cs, ∀ b ∈ B, c.1 < b.key) → (∀ c ∈ ds, ∀ a ∈ A, a.key < c.1) → (∀ c ∈ cs, ∀ d ∈ ds, c.1 < d.1) → mrg (A ++ B) (cs ++ ds) = mrg A cs ++ mrg B ds
  | [], ds, A, B, _, h, _ => mrg_right A B ds h
  | c :: cs, ds, A, B, h1, h2, h3 => by
    have hb := h1 c (by simp)
    simp only [mrg, List.filter_append, List.cons_append]
    rw [filter_none (A := B) (fun b hB => by simpa using klt_asymm (hb b hB)), filter_all (A := B) (fun b hB => by simpa using hb b hB), mrg_append cs ds _ B (fun d hd => h1 d (by simp [hd])) (fun d hd a ha => h2 d hd a (List.mem_filter.1 ha).1) (fun x hx => h3 x (by simp [hx]))]
    simp
/-- What weighs the items, behind changes. -/
theorem sum_mrg (f : Itm → Nat) : ∀ (cs : List Chg) (is : List Itm), ((mrg is cs).map f).sum ≤ (is.map f).sum + (cs.map fun c => (c.2.toList.map f).sum).sum
  | [], is => by simp [mrg]
  | c :: cs, is => by
    have h := sum_mrg f cs (is.filter fun i => decide (c.1 < i.key))
    have h2 : ∀ (l : List Itm), ((l.filter (fun i => decide (i.key < c.1))).map f).sum + ((l.filter (fun i => decide (c.1 < i.key))).map f).sum ≤ (l.map f).sum := by
      intro l
      induction l with
      | nil => simp
      | cons a r ih =>
        by_cases h3 : a.key < c.1
        · have h4 := klt_asymm h3
          simp only [List.filter_cons, h3, h4, decide_true, decide_false, if_true, List.map_cons, List.sum_cons] at *
          simp only [Bool.false_eq_true, if_false]
          omega
        · by_cases h4 : c.1 < a.key
          · simp only [List.filter_cons, h3, h4, decide_true, decide_false, if_true, List.map_cons, List.sum_cons] at *
            simp only [Bool.false_eq_true, if_false]
            omega
          · simp only [List.filter_cons, h3, h4, decide_false, List.map_cons, List.sum_cons] at *
            simp only [Bool.false_eq_true, if_false]
            omega
    have h3 := h2 is
    simp only [mrg, List.map_append, List.sum_append, List.map_cons, List.sum_cons]
    omega
/-- Rising items with the same keys and values. -/
theorem up_ext : ∀ {A B : List (List UInt8 × List UInt8)}, A.Pairwise (fun a b => a.1 < b.1) → B.Pairwise (fun a b => a.1 < b.1) → (∀ x, x ∈ A ↔ x ∈ B) → A = B
  | [], [], _, _, _ => rfl
  | [], b :: B, _, _, h => absurd ((h b).2 (by simp)) (by simp)
  | a :: A, [], _, _, h => absurd ((h a).1 (by simp)) (by simp)
  | a :: A, b :: B, hA, hB, h => by
    obtain ⟨a1, a2⟩ := List.pairwise_cons.1 hA
    obtain ⟨b1, b2⟩ := List.pairwise_cons.1 hB
    have e : a = b := by
      rcases List.mem_cons.1 ((h a).1 (by simp)) with h1 | h1
      · exact h1
      · rcases List.mem_cons.1 ((h b).2 (by simp)) with h2 | h2
        · exact h2.symm
        · exact absurd (b1 a h1) (klt_asymm (a1 b h2))
    subst e
    rw [up_ext a2 b2 fun x => ?_]
    constructor
    · intro hx
      rcases List.mem_cons.1 ((h x).1 (by simp [hx])) with h1 | h1
      · subst h1; exact absurd (a1 x hx) (klt_irrefl _)
      · exact h1
    · intro hx
      rcases List.mem_cons.1 ((h x).2 (by simp [hx])) with h1 | h1
      · subst h1; exact absurd (b1 x hx) (klt_irrefl _)
      · exact h1
/-- How many, side by side, don't fit into one. -/
def nf {α : Type} (f : α → Nat) : List α → Nat
  | a :: b :: r => (if 236 < f a + f b then 1 else 0) + nf f (b :: r)
  | _ => 0
theorem nf_snoc {α : Type} (f : α → Nat) (a b : α) : ∀ l : List α, nf f (l ++ [a] ++ [b]) = nf f (l ++ [a]) + if 236 < f a + f b then 1 else 0
  | [] => by simp [nf]
  | [x] => by simp [nf]
  | x :: y :: r => by
    have := nf_snoc f a b (y :: r)
    simp only [List.cons_append, nf] at this ⊢
    omega
theorem nf_one {α : Type} (f : α → Nat) : ∀ (b : α) (r : List α), Apart f (b :: r) → r.length ≤ nf f (b :: r)
  | _, [], _ => by simp
  | b, c :: r, hB => by
    have h1 := nf_one f c r (Apart.inner (A := [b]) (B := []) (by simpa using hB))
    have h2 := hB [] b c r rfl
    simp only [nf, h2, if_true, List.length_cons] at *
    omega
theorem nf_join {α : Type} (f : α → Nat) : ∀ (A B : List α), Apart f A → Apart f B → A.length + B.length ≤ nf f (A ++ B) + 2
  | [], [], _, _ => by simp
  | [], [b], _, _ => by simp
  | [], b :: c :: r, hA, hB => by
    have h1 := nf_join f [] (c :: r) hA (Apart.inner (A := [b]) (B := []) (by simpa using hB))
    have h2 := hB [] b c r rfl
    simp only [List.nil_append, nf, h2, if_true, List.length_cons, List.length_nil] at *
    omega
  | [a], [], _, _ => by simp
  | [a], b :: r, hA, hB => by
    have h1 := nf_one f b r hB
    simp only [List.nil_append, List.cons_append, nf, List.length_cons, List.length_nil] at *
    omega
  | a :: c :: r, B, hA, hB => by
    have h1 := nf_join f (c :: r) B (Apart.inner (A := [a]) (B := []) (by simpa using hA)) hB
    have h2 := hA [] a c r rfl
    simp only [List.cons_append, nf, h2, if_true, List.length_cons] at *
    omega
/-- How many nodes there are. -/
def nn : {k : Nat} → Tr k → Nat
  | 0, _ => 1
  | k + 1, n => 1 + (n.2.map (nn (k := k))).sum
/-- How many lie right below. -/
def ch : {k : Nat} → Tr k → Nat
  | 0, n => n.2.length
  | _ + 1, n => n.2.length
theorem len_its_succ {k : Nat} (n : Tr (k + 1)) : (its n).length = (n.2.map fun u => (its u).length).sum := by
  rw [its_succ, List.length_flatMap]
theorem sum_ones {α : Type} (l : List α) : (l.map fun _ => 1).sum = l.length := by induction l <;> simp_all; omega
theorem sum_ge {α : Type} (f g : α → Nat) (l : List α) (h : ∀ a ∈ l, f a ≤ g a) : (l.map f).sum ≤ (l.map g).sum := by
  induction l with
  | nil => simp
  | cons a r ih =>
    have h1 := ih fun x hx => h x (by simp [hx])
    have h2 := h a (by simp)
    simp only [List.map_cons, List.sum_cons]
    omega
/-- Of neighbours that don't fit into one there are many below. -/
theorem sum_ch : ∀ {k : Nat} (l : List (Tr (k + 1))), Apart fil l → (∀ u ∈ l, Wf u) → l.length * 12 ≤ (l.map fun u => u.2.length).sum + 11
  | _, [], _, _ => by simp
  | _, [a], _, hw => by
    have := (hw a (by simp)).1
    have := List.length_pos_iff.2 this
    simp
    omega
  | k, a :: b :: r, hA, hw => by
    have h1 := hA [] a b r rfl
    have h3 : 236 < a.2.length * 10 + b.2.length * 10 := h1
    cases r with
    | nil => simp; omega
    | cons c r =>
      have h2 := sum_ch (c :: r) (Apart.inner (A := [a, b]) (B := []) (by simpa using hA)) (fun u hu => hw u (List.mem_cons_of_mem _ (List.mem_cons_of_mem _ hu)))
      simp only [List.length_cons, List.map_cons, List.sum_cons] at *
      omega
/-- Of a level there are at least so many items by child. -/
def many : Nat → Nat
  | 0 => 1
  | k + 1 => 11 * many k + 1
theorem many_pos (k : Nat) : 1 ≤ many k := by cases k <;> simp [many]
theorem sum_affine {α : Type} (f g : α → Nat) (c d : Nat) (l : List α) (h : ∀ a ∈ l, c * g a ≤ f a + d) : c * (l.map g).sum ≤ (l.map f).sum + d * l.length := by
  induction l with
  | nil => simp
  | cons a r ih =>
    have h1 := ih fun x hx => h x (by simp [hx])
    have h2 := h a (by simp)
    simp only [List.map_cons, List.sum_cons, List.length_cons, Nat.mul_add, Nat.mul_one]
    omega
theorem items_ge : ∀ {k : Nat} (n : Tr (k + 1)), Wf n → many k * n.2.length ≤ (its n).length + (many k - 1)
  | 0, n, h => by
    rw [len_its_succ]
    have h1 := sum_ge (fun _ => 1) (fun u : Tr 0 => (its u).length) n.2 fun u hu => List.length_pos_iff.2 (h.2.2.1 u hu).some
    rw [sum_ones] at h1
    simp only [many]
    omega
  | k + 1, n, h => by
    rw [len_its_succ]
    obtain ⟨h1, h2, h3, h4⟩ := h
    have e1 := sum_affine (fun u : Tr (k + 1) => (its u).length) (fun u : Tr (k + 1) => u.2.length) (many k) (many k - 1) n.2 (fun u hu => items_ge u (h3 u hu))
    have e2 := sum_ch n.2 h4 h3
    have e3 := many_pos k
    have e4 := Nat.mul_le_mul_left (many k) e2
    generalize (n.2.map fun u : Tr (k + 1) => u.2.length).sum = S at *
    generalize (n.2.map fun u : Tr (k + 1) => (its u).length).sum = I at *
    generalize n.2.length = c at *
    simp only [many]
    generalize many k = m at *
    obtain ⟨m, rfl⟩ : ∃ j, m = j + 1 := ⟨m - 1, by omega⟩
    simp only [Nat.add_sub_cancel] at *
    have a1 : (m + 1) * (c * 12) = 12 * (m * c) + 12 * c := by rw [Nat.add_mul, Nat.one_mul, Nat.mul_comm c 12, Nat.mul_left_comm]
    have a2 : (m + 1) * (S + 11) = (m + 1) * S + (11 * m + 11) := by rw [Nat.mul_add]; omega
    have a3 : (11 * (m + 1) + 1) * c = 11 * (m * c) + 12 * c := by rw [Nat.add_mul, Nat.mul_assoc, Nat.add_mul]; omega
    omega
/-- A root. -/
def Top : {k : Nat} → Tr k → Prop
  | 0, _ => True
  | _ + 1, n => n.2.length ≠ 1
theorem many_ge : ∀ k, 3 ≤ k → 1464 ≤ many k
  | 3, _ => by decide
  | k + 4, _ => by have := many_ge (k + 3) (by omega); simp only [many] at *; omega
theorem level_le {k : Nat} (n : Tr k) (h : Wf n) (ht : Top n) (hi : (its n).length ≤ 500) : k ≤ 3 := by
  refine Classical.byContradiction fun hk => ?_
  obtain ⟨j, rfl⟩ : ∃ j, k = j + 1 := ⟨k - 1, by omega⟩
  have h1 := items_ge n h
  have h2 := many_ge j (by omega)
  have h3 : n.2.length ≠ 1 := ht
  have h4 := List.length_pos_iff.2 h.1
  have h5 : many j * 2 ≤ many j * n.2.length := Nat.mul_le_mul_left _ (by omega)
  omega
theorem nn_le {k : Nat} (n : Tr k) (h : Wf n) (ht : Top n) (hi : (its n).length ≤ 500) : nn n ≤ 560 := by
  have hk := level_le n h ht hi
  have n0 : ∀ u : Tr 0, nn u = 1 := fun u => rfl
  have n1 : ∀ u : Tr 1, nn u = 1 + u.2.length := fun u => by
    show 1 + (u.2.map (nn (k := 0))).sum = _
    have : u.2.map (nn (k := 0)) = u.2.map fun _ => 1 := List.map_congr_left fun x _ => n0 x
    rw [this, sum_ones]
  have hs : ∀ (j : Nat) (l : List (Tr j)), (l.map fun u => 1 + (its u).length).sum = l.length + (l.map fun u => (its u).length).sum := fun j l => by
    induction l with
    | nil => rfl
    | cons a r ih => simp only [List.map_cons, List.sum_cons, List.length_cons] at *; omega
  have hs2 : ∀ (l : List (Tr 2)), (l.map fun u : Tr 2 => 1 + u.2.length + (its u).length).sum = l.length + (l.map fun u : Tr 2 => u.2.length).sum + (l.map fun u => (its u).length).sum := fun l => by
    induction l with
    | nil => rfl
    | cons a r ih => simp only [List.map_cons, List.sum_cons, List.length_cons] at *; omega
  have b1 : ∀ u : Tr 1, Wf u → nn u ≤ 1 + (its u).length := fun u hu => by
    have := items_ge u hu
    simp [many] at this
    rw [n1]
    omega
  have b2 : ∀ u : Tr 2, Wf u → nn u ≤ 1 + u.2.length + (its u).length := fun u hu => by
    have e1 := sum_ge (nn (k := 1)) (fun u : Tr 1 => 1 + (its u).length) u.2 fun x hx => b1 x (hu.2.2.1 x hx)
    rw [hs, ← len_its_succ] at e1
    show 1 + (u.2.map (nn (k := 1))).sum ≤ _
    omega
  match k, hk, n, h, hi with
  | 0, _, n, h, hi => rw [n0]; omega
  | 1, _, n, h, hi => have := b1 n h; omega
  | 2, _, n, h, hi =>
    have := b2 n h
    have := h.2.1
    omega
  | 3, _, n, h, hi =>
    have e1 := sum_ge (nn (k := 2)) (fun u : Tr 2 => 1 + u.2.length + (its u).length) n.2 fun x hx => b2 x (h.2.2.1 x hx)
    rw [hs2, ← len_its_succ] at e1
    have e2 := sum_affine (fun u : Tr 2 => (its u).length) (fun u : Tr 2 => u.2.length) 12 11 n.2 (fun u hu => by have := items_ge u (h.2.2.1 u hu); simpa [many] using this)
    rw [← len_its_succ] at e2
    have e3 := items_ge n h
    simp [many] at e3
    show 1 + (n.2.map (nn (k := 2))).sum ≤ _
    omega
end Go.Proofs.YtgpbhlfdlkemjaaGreat
