/-
  The calls of a disk and its Pages, in the words of the texts.
-/
import Derived.Test.YtilelklcfgemoaaSy
namespace Go.Proofs.Ytilelklcfgemoaa
open Go.RowKit
set_option linter.unusedVariables false

/-- What has turned between w and w' is none of X. -/
def KX (X : List Nat) (w w' : World) : Prop := ∃ S, Kept S w w' ∧ ∀ x ∈ X, x ∉ S
theorem KX.of {X : List Nat} {w w' : World} (k : Kept [] w w') : KX X w w' := ⟨[], k, by simp⟩
theorem KX.refl (X : List Nat) (w : World) : KX X w w := KX.of (Kept.refl [] w)
theorem KX.size {X : List Nat} {w w' : World} (k : KX X w w') : w.heap.size ≤ w'.heap.size := by
  obtain ⟨S, k, hS⟩ := k
  exact k.size
/-- The Pages at p of the disk at q, made since w0, in no block of X. -/
def Sy (w0 w : World) (q p : Nat) (s : St) (fr ct : Nat) (L : List Ent) (fl X : List Nat) : Prop :=
  ∃ F G T, IsD w F q s ∧ IsP w G p q fr ct T fl ∧ T.Perm (ets L) ∧ (∀ x ∈ G, x ∉ F) ∧ Okp s fr ct L fl ∧ Kept [] w0 w ∧ ∀ x, x ∈ F ∨ x ∈ G → w0.heap.size ≤ x ∧ x ∉ X
section
variable {w0 w w' : World} {q p : Nat} {s : St} {fr ct : Nat} {L : List Ent} {fl X Y : List Nat}
theorem Sy.k (h : Sy w0 w q p s fr ct L fl X) : Kept [] w0 w := by obtain ⟨_, _, _, _, _, _, _, _, h, _⟩ := h; exact h
theorem Sy.ok (h : Sy w0 w q p s fr ct L fl X) : Okp s fr ct L fl := by obtain ⟨_, _, _, _, _, _, _, h, _, _⟩ := h; exact h
theorem Sy.turn (h : Sy w0 w q p s fr ct L fl X) {S : List Nat} (k : Kept S w w') (hS : ∀ x ∈ S, x ∈ X ∨ w.heap.size ≤ x) (h0 : ∀ x ∈ S, w0.heap.size ≤ x) : Sy w0 w' q p s fr ct L fl X := by
  obtain ⟨F, G, T, hD, hP, hT, hFG, hO, hK, hH⟩ := h
  refine ⟨F, G, T, hD.kept k (fun x hx hm => ?_), hP.kept k (fun x hx hm => ?_), hT, hFG, hO, hK.trans k (fun x hx => .inr (h0 x hx)), hH⟩
  · rcases hS x hm with h | h
    · exact (hH x (.inl hx)).2 h
    · have := hD.lt x hx; omega
  · rcases hS x hm with h | h
    · exact (hH x (.inr hx)).2 h
    · have := hP.lt x hx; omega
theorem Sy.kept (h : Sy w0 w q p s fr ct L fl X) (k : Kept [] w w') : Sy w0 w' q p s fr ct L fl X := h.turn k (by simp) (by simp)
/-- More blocks of the caller's, that are new. -/
theorem Sy.more (h : Sy w0 w q p s fr ct L fl X) (k : Kept [] w w') (hY : ∀ y ∈ Y, w.heap.size ≤ y) : Sy w0 w' q p s fr ct L fl (Y ++ X) := by
  obtain ⟨F, G, T, hD, hP, hT, hFG, hO, hK, hH⟩ := h
  refine ⟨F, G, T, hD.kept k (by simp), hP.kept k (by simp), hT, hFG, hO, hK.trans k (by simp), fun x hx => ⟨(hH x hx).1, fun hm => ?_⟩⟩
  rcases List.mem_append.1 hm with h | h
  · have := hY x h
    rcases hx with hx | hx
    · have := hD.lt x hx; omega
    · have := hP.lt x hx; omega
  · exact (hH x hx).2 h
theorem Sy.less (h : Sy w0 w q p s fr ct L fl X) (hY : ∀ y ∈ Y, y ∈ X) : Sy w0 w q p s fr ct L fl Y := by
  obtain ⟨F, G, T, hD, hP, hT, hFG, hO, hK, hH⟩ := h
  exact ⟨F, G, T, hD, hP, hT, hFG, hO, hK, fun x hx => ⟨(hH x hx).1, fun hm => (hH x hx).2 (hY x hm)⟩⟩
/-- Put, the power being on as long as it lasts. -/
theorem sy_put (h : Sy w0 w q p s fr ct L fl X) (a : Option Addr) (n c : Nat) (l : List UInt8) (hn : n = l.length) (hr : Reads w (.slice a n c) l) (hX : ∀ g, (Value.slice a n c).ownBlock = some g → g ∈ X ∨ g < w0.heap.size) (hXl : ∀ x ∈ X, x < w.heap.size) (hl : n ≤ 20000) (hk : bks n ≤ fl.length) (hd : s.down = false) (hf : s.fuse < 0 ∨ (bks n : Int) ≤ s.fuse) (hws : s.ws.length ≤ 90000) :
    Calls Try.prog 16 #[.pointer (some ⟨p, 0, none⟩), .slice a n c] w fun e w' => ∃ (nm : Nat) (vs : List Wr) (fu : Int), e = .returned (.tuple #[.int .i64 (nm : Int), .int .i64 0]) ∧ fl.head? = some nm ∧ vs.length = bks n ∧ (∀ x ∈ vs, x.1 ∈ fl.take (bks n)) ∧ (s.fuse < 0 → fu = s.fuse) ∧
      Sy w0 w' q p { s with ws := s.ws ++ vs, fuse := fu } fr ct (L ++ [(nm, fl.take (bks n), l)]) (fl.drop (bks n)) X ∧ KX X w w' := by
  subst hn
  obtain ⟨F, G, T, hD, hP, hT, hFG, hO, hK, hH⟩ := h
  obtain ⟨nm, hnm⟩ : ∃ nm, fl.head? = some nm := by
    cases fl with
    | nil => have := bks_pos l.length; simp at hk; omega
    | cons x r => exact ⟨x, rfl⟩
  have hfl := hO.few
  have har := hO.area
  have hnb := hO.nb
  have hTl : T.length = L.length := by rw [hT.length_eq]; simp [ets]
  have hlen : (fl.take (bks l.length)).length = bks l.length := by rw [List.length_take]; omega
  refine (put_any hD hP hFG hd a c l hr (fun g hg hm => ?_) hl hk (fun x hx => by have := hO.mem (List.mem_append.2 (.inr hx)); omega) (by omega) nm hnm (fun hm => ?_) (by omega) hws).mono ?_
  · have := hH g (.inl hm)
    rcases hX g hg with h | h
    · exact this.2 h
    · omega
  · rw [(hT.map (·.1)).mem_iff, ets_names] at hm
    exact hO.newName (List.mem_of_mem_head? hnm) hm
  · rintro e w' ⟨t, F', G', hD', k', nF, nG, hFG', hres⟩
    have hv0 : ∀ x ∈ wsOf t nm (fl.take (bks l.length)) l (bks l.length), x.1 ∈ fl.take (bks l.length) := fun x hx => by
      obtain ⟨j, hj, rfl⟩ := wsOf_mem _ _ _ _ _ _ hx
      exact getD_mem (by rw [hlen]; exact hj)
    have hv : ∀ x ∈ wsOf t nm (fl.take (bks l.length)) l (bks l.length), x.1 ∈ fl := fun x hx => List.mem_of_mem_take (hv0 x hx)
    have hwr := wrAll_ok (wsOf t nm (fl.take (bks l.length)) l (bks l.length)) s hd (fun x hx => ⟨by have := hO.mem (List.mem_append.2 (.inr (hv x hx))); omega, by obtain ⟨j, hj, rfl⟩ := wsOf_mem _ _ _ _ _ _ hx; exact pblk_len _ _ _ _ _⟩) (by rw [wsOf_length]; exact hf)
    rw [hwr] at hD' hres
    rcases hres with ⟨_, rfl, hP'⟩ | ⟨h, _⟩
    · refine ⟨nm, _, _, rfl, hnm, wsOf_length _ _ _ _ _, hv0, fun hs => by rw [if_pos hs], ⟨F', G', _, hD', hP', ?_, hFG', ?_, hK.trans k' (fun x hx => .inr (hH x (by simpa using hx)).1), fun x hx => ?_⟩, ⟨_, k', fun x hx hm => (hH x (by simpa using hm)).2 hx⟩⟩
      · have := hT.append_right [(nm, fl.take (bks l.length))]
        simpa [ets] using this
      · have h2 := hO.put t nm l hl hnm hk (if s.fuse < 0 then s.fuse else s.fuse - ((wsOf t nm (fl.take (bks l.length)) l (bks l.length)).length : Int)) false
        rw [← hd] at h2
        exact h2
      · have hh : x ∈ F ∨ x ∈ G ∨ w.heap.size ≤ x := by
          rcases hx with hx | hx
          · rcases nF x hx with h | h
            · exact .inl h
            · exact .inr (.inr h)
          · rcases nG x hx with h | h
            · exact .inr (.inl h)
            · exact .inr (.inr h)
        rcases hh with h | h | h
        · exact hH x (.inl h)
        · exact hH x (.inr h)
        · exact ⟨Nat.le_trans hK.size h, fun hm => by have := hXl x hm; omega⟩
    · exact absurd rfl h
/-- Put, the power failing. -/
theorem sy_put_lost (h : Sy w0 w q p s fr ct L fl X) (a : Option Addr) (n c : Nat) (l : List UInt8) (hn : n = l.length) (hr : Reads w (.slice a n c) l) (hX : ∀ g, (Value.slice a n c).ownBlock = some g → g ∈ X ∨ g < w0.heap.size) (hXl : ∀ x ∈ X, x < w.heap.size) (hl : n ≤ 20000) (hk : bks n ≤ fl.length) (hd : s.down = false) (f : Nat) (hf : s.fuse = (f : Int)) (hfl : f < bks n) (hws : s.ws.length ≤ 90000) :
    Calls Try.prog 16 #[.pointer (some ⟨p, 0, none⟩), .slice a n c] w fun e w' => e = .returned (.tuple #[.int .i64 0, .int .i64 9]) ∧ ∃ vs : List Wr, vs.length = f ∧
      Sy w0 w' q p { s with ws := s.ws ++ vs, fuse := 0, down := true } fr ct L fl X ∧ KX X w w' := by
  subst hn
  obtain ⟨F, G, T, hD, hP, hT, hFG, hO, hK, hH⟩ := h
  obtain ⟨nm, hnm⟩ : ∃ nm, fl.head? = some nm := by
    cases fl with
    | nil => have := bks_pos l.length; simp at hk; omega
    | cons x r => exact ⟨x, rfl⟩
  have hfl' := hO.few
  have har := hO.area
  have hnb := hO.nb
  have hTl : T.length = L.length := by rw [hT.length_eq]; simp [ets]
  have hlen : (fl.take (bks l.length)).length = bks l.length := by rw [List.length_take]; omega
  refine (put_any hD hP hFG hd a c l hr (fun g hg hm => ?_) hl hk (fun x hx => by have := hO.mem (List.mem_append.2 (.inr hx)); omega) (by omega) nm hnm (fun hm => ?_) (by omega) hws).mono ?_
  · have := hH g (.inl hm)
    rcases hX g hg with h | h
    · exact this.2 h
    · omega
  · rw [(hT.map (·.1)).mem_iff, ets_names] at hm
    exact hO.newName (List.mem_of_mem_head? hnm) hm
  · rintro e w' ⟨t, F', G', hD', k', nF, nG, hFG', hres⟩
    have hv : ∀ x ∈ wsOf t nm (fl.take (bks l.length)) l (bks l.length), x.1 ∈ fl := fun x hx => by
      obtain ⟨j, hj, rfl⟩ := wsOf_mem _ _ _ _ _ _ hx
      exact List.mem_of_mem_take (getD_mem (by rw [hlen]; exact hj))
    have hwr := wrAll_lost (wsOf t nm (fl.take (bks l.length)) l (bks l.length)) s f hd (fun x hx => ⟨by have := hO.mem (List.mem_append.2 (.inr (hv x hx))); omega, by obtain ⟨j, hj, rfl⟩ := wsOf_mem _ _ _ _ _ _ hx; exact pblk_len _ _ _ _ _⟩) hf (by rw [wsOf_length]; exact hfl)
    rw [hwr] at hD' hres
    rcases hres with ⟨h, _⟩ | ⟨_, rfl, hP'⟩
    · exact absurd h (by simp)
    · refine ⟨rfl, _, by rw [List.length_take, wsOf_length]; omega, ⟨F', G', _, hD', hP', hT, hFG', hO.wrote _ (fun x hx => hv x (List.mem_of_mem_take hx)) 0 true, hK.trans k' (fun x hx => .inr (hH x (by simpa using hx)).1), fun x hx => ?_⟩, ⟨_, k', fun x hx hm => (hH x (by simpa using hm)).2 hx⟩⟩
      have hh : x ∈ F ∨ x ∈ G ∨ w.heap.size ≤ x := by
        rcases hx with hx | hx
        · rcases nF x hx with h | h
          · exact .inl h
          · exact .inr (.inr h)
        · rcases nG x hx with h | h
          · exact .inr (.inl h)
          · exact .inr (.inr h)
      rcases hh with h | h | h
      · exact hH x (.inl h)
      · exact hH x (.inr h)
      · exact ⟨Nat.le_trans hK.size h, fun hm => by have := hXl x hm; omega⟩
theorem sy_put_full (h : Sy w0 w q p s fr ct L fl X) (a : Option Addr) (n c : Nat) (hl : n ≤ 20000) (hf : fl.length < bks n) :
    Calls Try.prog 16 #[.pointer (some ⟨p, 0, none⟩), .slice a n c] w fun e w' => e = .returned (.tuple #[.int .i64 0, .int .i64 6]) ∧ w = w' := by
  obtain ⟨F, G, T, hD, hP, hT, hFG, hO, hK, hH⟩ := h
  exact put_full hP a n c hl hf
theorem sy_get (h : Sy w0 w q p s fr ct L fl X) (hd : s.down = false) (x : Ent) (hx : x ∈ L) :
    Calls Try.prog 24 #[.pointer (some ⟨p, 0, none⟩), .int .i64 (x.1 : Int)] w fun e w' => ∃ v, e = .returned (.tuple #[v, .int .i64 0]) ∧ Owns 5 w' v x.2.2 ∧ Kept [] w w' ∧ Fresh w v := by
  obtain ⟨F, G, T, hD, hP, hT, hFG, hO, hK, hH⟩ := h
  exact get_ok hD hP hd hO.area x.1 x.2.1 x.2.2 (hT.mem_iff.2 (List.mem_map.2 ⟨x, hx, rfl⟩)) (hO.lies x hx) (fun b hb => hO.mem (List.mem_append.2 (.inl (mem_bls.2 ⟨x, hx, hb⟩))))
theorem Sy.noName (h : Sy w0 w q p s fr ct L fl X) {k : Int} (hk : ∀ x ∈ L, (x.1 : Int) ≠ k) {T : List (Nat × List Nat)} (hT : T.Perm (ets L)) : ∀ x ∈ T, (x.1 : Int) ≠ k := fun x hx => by
  rw [hT.mem_iff] at hx
  obtain ⟨y, hy, rfl⟩ := List.mem_map.1 hx
  exact hk y hy
theorem sy_get_none (h : Sy w0 w q p s fr ct L fl X) (k : Int) (hw : (Lit.int .i64 k).wf = true) (hk : ∀ x ∈ L, (x.1 : Int) ≠ k) :
    Calls Try.prog 24 #[.pointer (some ⟨p, 0, none⟩), .int .i64 k] w fun e w' => e = .returned (.tuple #[.slice none 0 0, .int .i64 5]) ∧ w = w' := by
  have h' := h
  obtain ⟨F, G, T, hD, hP, hT, hFG, hO, hK, hH⟩ := h
  exact get_none hP k hw (h'.noName hk hT)
theorem sy_drop_none (h : Sy w0 w q p s fr ct L fl X) (k : Int) (hw : (Lit.int .i64 k).wf = true) (hk : ∀ x ∈ L, (x.1 : Int) ≠ k) :
    Calls Try.prog 17 #[.pointer (some ⟨p, 0, none⟩), .int .i64 k] w fun e w' => e = .returned (.int .i64 5) ∧ w = w' := by
  have h' := h
  obtain ⟨F, G, T, hD, hP, hT, hFG, hO, hK, hH⟩ := h
  exact drop_none hP k hw (h'.noName hk hT)
theorem sy_drop {A B : List Ent} {x : Ent} (h : Sy w0 w q p s fr ct (A ++ x :: B) fl X) (hXl : ∀ x ∈ X, x < w.heap.size) :
    Calls Try.prog 17 #[.pointer (some ⟨p, 0, none⟩), .int .i64 (x.1 : Int)] w fun e w' => e = .returned (.int .i64 0) ∧ Sy w0 w' q p s fr ct (A ++ B) (fl ++ x.2.1) X ∧ KX X w w' := by
  obtain ⟨F, G, T, hD, hP, hT, hFG, hO, hK, hH⟩ := h
  have hlen := hO.length
  have har := hO.area
  have hnb := hO.nb
  refine (drop_ok hP x.1 x.2.1 (hT.mem_iff.2 (List.mem_map.2 ⟨x, by simp, rfl⟩)) (by rw [bls_append, bls_cons, List.length_append, List.length_append] at hlen; omega)).mono ?_
  rintro e w' ⟨rfl, G', hP', k', nG⟩
  have hFK : ∀ y ∈ F, y ∉ G := fun y hy hg => hFG y hg hy
  refine ⟨rfl, ⟨F, G', _, hD.kept k' hFK, hP', ?_, fun y hy hf => ?_, hO.drop, hK.trans k' (fun y hy => .inr (hH y (.inr hy)).1), fun y hy => ?_⟩, ⟨_, k', fun y hy hm => (hH y (.inr hm)).2 hy⟩⟩
  · have hno := hO.names
    have h1 := hT.filter fun y => y.1 != x.1
    refine h1.trans (List.Perm.of_eq ?_)
    unfold ets
    rw [List.map_append, List.map_cons, List.filter_append, List.filter_cons, List.map_append]
    rw [List.map_append, List.map_cons] at hno
    have hA : ∀ y ∈ A, y.1 ≠ x.1 := fun y hy => (List.nodup_append.1 hno).2.2 y.1 (List.mem_map.2 ⟨y, hy, rfl⟩) x.1 (by simp)
    have hB : ∀ y ∈ B, y.1 ≠ x.1 := fun y hy e => ((List.nodup_cons.1 (List.nodup_append.1 hno).2.1).1) (e ▸ List.mem_map.2 ⟨y, hy, rfl⟩)
    rw [if_neg (by simp), List.filter_eq_self.2 (fun y hy => by obtain ⟨z, hz, rfl⟩ := List.mem_map.1 hy; simpa using hA z hz), List.filter_eq_self.2 (fun y hy => by obtain ⟨z, hz, rfl⟩ := List.mem_map.1 hy; simpa using hB z hz)]
  · rcases nG y hy with h | h
    · exact hFG y h hf
    · have := hD.lt y hf; omega
  · rcases hy with hy | hy
    · exact hH y (.inl hy)
    · rcases nG y hy with h | h
      · exact hH y (.inr h)
      · exact ⟨Nat.le_trans hK.size h, fun hm => by have := hXl y hm; omega⟩
theorem sy_blocks (h : Sy w0 w q p s fr ct L fl X) (x : Ent) (hx : x ∈ L) :
    Calls Try.prog 22 #[.pointer (some ⟨p, 0, none⟩), .int .i64 (x.1 : Int)] w fun e w' => ∃ v, e = .returned v ∧ FrS w' v x.2.1 ∧ Kept [] w w' ∧ Fresh w v := by
  obtain ⟨F, G, T, hD, hP, hT, hFG, hO, hK, hH⟩ := h
  exact blocks_ok hP x.1 x.2.1 (hT.mem_iff.2 (List.mem_map.2 ⟨x, hx, rfl⟩)) (by have := (hO.lies x hx).len; have := bks_le (hO.lies x hx).long; omega)
/-- The numbers ns, each once, rising. -/
def Rises (ns : List Nat) (l : List Nat) : Prop := ns.Perm l ∧ ns.Pairwise (· < ·)
theorem rises_of {zs : List Int} {l : List Nat} (h : zs.Perm (l.map fun (n : Nat) => (n : Int))) (hn : l.Nodup) : Rises ((zs.mergeSort leI).map Int.toNat) l := by
  have tr : ∀ a b c : Int, leI a b = true → leI b c = true → leI a c = true := fun a b c h1 h2 => by simp only [leI, decide_eq_true_eq] at *; exact Int.le_trans h1 h2
  have to : ∀ a b : Int, (leI a b || leI b a) = true := fun a b => by simp only [leI, Bool.or_eq_true, decide_eq_true_eq]; exact Int.le_total a b
  have hp : ((zs.mergeSort leI).map Int.toNat).Perm l := by
    refine (((List.mergeSort_perm zs leI).trans h).map Int.toNat).trans (List.Perm.of_eq ?_)
    rw [List.map_map]
    simp [Function.comp_def]
  have hpos : ∀ z ∈ zs.mergeSort leI, 0 ≤ z := fun z hz => by
    obtain ⟨n, _, rfl⟩ := List.mem_map.1 (h.mem_iff.1 (List.mem_mergeSort.1 hz))
    omega
  refine ⟨hp, ?_⟩
  have hs := List.pairwise_mergeSort tr to zs
  have hd : ((zs.mergeSort leI).map Int.toNat).Nodup := (hp.nodup_iff).2 hn
  refine List.pairwise_map.2 ((hs.and (List.pairwise_map.1 hd)).imp_of_mem fun {a b} ha hb hab => ?_)
  have h1 := hpos a ha
  have h2 := hpos b hb
  have h3 := hab.1
  have h4 := hab.2
  simp only [leI, decide_eq_true_eq] at h3
  omega
theorem sy_names (h : Sy w0 w q p s fr ct L fl X) :
    Calls Try.prog 25 #[.pointer (some ⟨p, 0, none⟩)] w fun e w' => ∃ v ns, e = .returned v ∧ OwnsI w' v ns ∧ Rises ns (L.map (·.1)) ∧ Kept [] w w' ∧ Fresh w v := by
  obtain ⟨F, G, T, hD, hP, hT, hFG, hO, hK, hH⟩ := h
  have hfl := hO.few
  have har := hO.area
  have hnb := hO.nb
  have hTl : T.length = L.length := by rw [hT.length_eq]; simp [ets]
  refine (names_int hP (by omega)).mono ?_
  rintro e w' ⟨v, ss, rfl, hS, hrow, hb⟩
  have hS2 : ss.Perm ((L.map (·.1)).map fun (n : Nat) => (n : Int)) := by
    refine hS.trans ((hT.map fun x => (x.1 : Int)).trans (List.Perm.of_eq ?_))
    simp [ets]
  have hR := rises_of hS2 hO.names
  have hpos : ∀ z ∈ ss.mergeSort leI, 0 ≤ z := fun z hz => by
    obtain ⟨n, _, rfl⟩ := List.mem_map.1 (hS2.mem_iff.1 (List.mem_mergeSort.1 hz))
    omega
  have hrow2 : w'.ownsRow w.heap.size 3 1 v (ss.mergeSort leI).length ((ss.mergeSort leI).map encZ) := by rw [List.length_mergeSort]; exact hrow
  obtain ⟨hO2, hF2⟩ := ownsI_of hrow2 hpos
  exact ⟨v, _, rfl, hO2, hR, Below.kept hb, hF2⟩
theorem sy_free (h : Sy w0 w q p s fr ct L fl X) :
    Calls Try.prog 14 #[.pointer (some ⟨p, 0, none⟩)] w fun e w' => ∃ v ns, e = .returned v ∧ OwnsI w' v ns ∧ Rises ns fl ∧ Kept [] w w' ∧ Fresh w v := by
  obtain ⟨F, G, T, hD, hP, hT, hFG, hO, hK, hH⟩ := h
  have hfl := hO.few
  have har := hO.area
  have hnb := hO.nb
  refine (free_int hP (by omega)).mono ?_
  rintro e w' ⟨v, rfl, hO2, k2, hF2⟩
  exact ⟨v, _, rfl, hO2, rises_of (List.Perm.refl _) (List.nodup_append.1 hO.nodup).2.1, k2, hF2⟩
theorem sy_writes (h : Sy w0 w q p s fr ct L fl X) : Calls Try.prog 15 #[.pointer (some ⟨q, 0, none⟩)] w fun e w' => e = .returned (.int .i64 (s.ws.length : Int)) ∧ w = w' := by
  obtain ⟨F, G, T, hD, hP, hT, hFG, hO, hK, hH⟩ := h
  exact writes_any hD
theorem sy_fuse (h : Sy w0 w q p s fr ct L fl X) (f : Nat) (hf : f ≤ 1000) :
    Calls Try.prog 19 #[.pointer (some ⟨q, 0, none⟩), .int .i64 (f : Int)] w fun e w' => e = .returned (.tuple #[]) ∧ Sy w0 w' q p { s with fuse := (f : Int) } fr ct L fl X ∧ KX X w w' := by
  obtain ⟨F, G, T, hD, hP, hT, hFG, hO, hK, hH⟩ := h
  refine (setfuse_any hD f (by omega) (by omega)).mono ?_
  rintro e w' ⟨rfl, hD', k'⟩
  have e1 : fuseS s f = { s with fuse := (f : Int) } := by unfold fuseS; rw [show max (f : Int) (-1) = f by omega]
  rw [e1] at hD'
  exact ⟨rfl, ⟨F, G, T, hD', hP.kept k' hFG, hT, hFG, hO.turned f s.down, hK.trans k' (fun x hx => .inr (hH x (.inl hx)).1), hH⟩, ⟨_, k', fun x hx hm => (hH x (.inl hm)).2 hx⟩⟩
theorem sy_restart (h : Sy w0 w q p s fr ct L fl X) :
    Calls Try.prog 20 #[.pointer (some ⟨q, 0, none⟩)] w fun e w' => e = .returned (.tuple #[]) ∧ Sy w0 w' q p { s with fuse := -1, down := false } fr ct L fl X ∧ KX X w w' := by
  obtain ⟨F, G, T, hD, hP, hT, hFG, hO, hK, hH⟩ := h
  refine (restart_any hD).mono ?_
  rintro e w' ⟨rfl, hD', k'⟩
  exact ⟨rfl, ⟨F, G, T, hD', hP.kept k' hFG, hT, hFG, hO.turned (-1) false, hK.trans k' (fun x hx => .inr (hH x (.inl hx)).1), hH⟩, ⟨_, k', fun x hx hm => (hH x (.inl hm)).2 hx⟩⟩
/-- Open of a disk, with the names of texts that lie there. -/
theorem open_texts {F : List Nat} (hD : IsD w F q s) (hd : s.down = false) (h1 : 1 ≤ ct) (ha : fr + ct ≤ s.nb) (hL : ∀ x ∈ L, Lies (blk s.ws) x.1 x.2.1 x.2.2) (hn : (bls L).Nodup) (hin : ∀ b ∈ bls L, fr ≤ b ∧ b < fr + ct) (hLl : L.length ≤ 1000) (a : Option Addr) (m c : Nat) (hm : m = L.length) (hr : ReadsI w (.slice a m c) (L.map (·.1))) (hK : Kept [] w0 w) (hF : ∀ x ∈ F, w0.heap.size ≤ x ∧ x ∉ X) (hXl : ∀ x ∈ X, x < w.heap.size) :
    Calls Try.prog 11 #[.pointer (some ⟨q, 0, none⟩), .int .i64 (fr : Int), .int .i64 (ct : Int), .slice a m c] w fun e w' => ∃ p2 fl2, e = .returned (.tuple #[.pointer (some ⟨p2, 0, none⟩), .int .i64 0]) ∧ Sy w0 w' q p2 s fr ct L fl2 X ∧ Kept [] w w' := by
  have hself : ∀ x ∈ L, x.1 ∈ x.2.1 := fun x hx => List.mem_of_mem_head? (hL x hx).first
  have hnm : (L.map (·.1)).Nodup := by
    unfold bls at hn
    exact List.pairwise_map.2 ((List.pairwise_flatMap.1 hn).2.imp_of_mem fun {x y} hx hy hp => hp x.1 (hself x hx) y.1 (hself y hy))
  have hnb := hD.ok.nb
  have hlen : (L.map (·.1)).length = m := by rw [List.length_map, hm]
  have hc := openP_any hD hd h1 ha (L.map (·.1)) (by rw [hlen]; omega) (fun x hx => by obtain ⟨y, hy, rfl⟩ := List.mem_map.1 hx; have := hin y.1 (mem_bls.2 ⟨y, hy, hself y hy⟩); omega) a c (by rw [hlen]; exact hr) (ets L)
    ⟨fun x hx => by obtain ⟨y, hy, rfl⟩ := List.mem_map.1 hx; exact ⟨_, hL y hy⟩, fun x hx b hb => by obtain ⟨y, hy, rfl⟩ := List.mem_map.1 hx; exact hin b (mem_bls.2 ⟨y, hy, hb⟩), by rw [ets_names]; exact hnm⟩ true (fun k hk => by rw [← List.getElem?_map, ets_names]) (.inl ⟨rfl, by rw [hlen, hm]; simp [ets]⟩)
  rw [hlen] at hc
  refine hc.mono ?_
  rintro e w' ⟨k', ⟨_, p2, G, rfl, hP, hG⟩ | ⟨h, _⟩⟩
  · refine ⟨p2, _, rfl, ⟨F, G, _, hD.kept k' (by simp), hP, List.Perm.refl _, fun x hx hf => ?_, ⟨hL, freeOf_perm hn hin, ha, h1, hnb⟩, hK.trans k' (by simp), fun x hx => ?_⟩, k'⟩
    · have := hG x hx; have := hD.lt x hf; omega
    · rcases hx with hx | hx
      · exact hF x hx
      · exact ⟨Nat.le_trans hK.size (hG x hx), fun hm => by have := hXl x hm; have := hG x hx; omega⟩
  · cases h
/-- Open anew. -/
theorem sy_open (h : Sy w0 w q p s fr ct L fl X) (hd : s.down = false) (hLl : L.length ≤ 1000) (a : Option Addr) (m c : Nat) (hm : m = L.length) (hr : ReadsI w (.slice a m c) (L.map (·.1))) (hXl : ∀ x ∈ X, x < w.heap.size) :
    Calls Try.prog 11 #[.pointer (some ⟨q, 0, none⟩), .int .i64 (fr : Int), .int .i64 (ct : Int), .slice a m c] w fun e w' => ∃ p2 fl2, e = .returned (.tuple #[.pointer (some ⟨p2, 0, none⟩), .int .i64 0]) ∧ Sy w0 w' q p2 s fr ct L fl2 X ∧ Kept [] w w' := by
  obtain ⟨F, G, T, hD, hP, hT, hFG, hO, hK, hH⟩ := h
  exact open_texts hD hd hO.one hO.area hO.lies (List.nodup_append.1 hO.nodup).1 (fun b hb => hO.mem (List.mem_append.2 (.inl hb))) hLl a m c hm hr hK (fun x hx => hH x (.inl hx)) hXl
end
/-- A new disk, and its Pages. -/
theorem sy_new {w0 w : World} (k : Kept [] w0 w) (nb fr ct : Nat) (hnb : nb ≤ 65536) (hc : 1 ≤ ct) (ha : fr + ct ≤ nb) :
    Calls Try.prog 10 #[.int .i64 (nb : Int)] w fun e w1 => ∃ q, e = .returned (.pointer (some ⟨q, 0, none⟩)) ∧ Kept [] w w1 ∧ ∀ w2, Kept [] w1 w2 → Calls Try.prog 11 #[.pointer (some ⟨q, 0, none⟩), .int .i64 (fr : Int), .int .i64 (ct : Int), .slice none 0 0] w2 fun e w' => ∃ p fl, e = .returned (.tuple #[.pointer (some ⟨p, 0, none⟩), .int .i64 0]) ∧ fl.length = ct ∧ Sy w0 w' q p ⟨nb, [], -1, false⟩ fr ct [] fl [] ∧ Kept [] w2 w' := by
  refine (new_nb nb hnb w).mono fun e w1 ⟨q, heq, F, hD, k1, nF⟩ => ⟨q, heq, k1, fun w2 k2 => ?_⟩
  refine (open_texts (w0 := w0) (L := []) (X := []) (hD.kept k2 (by simp)) rfl hc ha (by simp) (by simp [bls]) (by simp [bls]) (by simp) none 0 0 rfl (ReadsI.nil w2) ((k.trans k1 (by simp)).trans k2 (by simp)) (fun x hx => ⟨Nat.le_trans k.size (nF x hx), by simp⟩) (by simp)).mono ?_
  rintro e w' ⟨p, fl, rfl, hS, k3⟩
  have := hS.ok.length
  exact ⟨p, fl, rfl, by simpa [bls] using this, hS, k3⟩
theorem Reads.keptX {X : List Nat} {w w' : World} {v : Value} {l : List UInt8} (h : Reads w v l) (k : KX X w w') (hX : ∀ g, v.ownBlock = some g → g ∈ X) : Reads w' v l := by
  obtain ⟨S, k, hS⟩ := k
  exact h.kept k (fun g hg => hS g (hX g hg))
theorem OwnsI.keptX {X : List Nat} {w w' : World} {v : Value} {l : List Nat} (h : OwnsI w v l) (k : KX X w w') (hX : ∀ g, v.ownBlock = some g → g ∈ X) : OwnsI w' v l := by
  obtain ⟨S, k, hS⟩ := k
  exact h.kept k (fun g hg => hS g (hX g hg))
end Go.Proofs.Ytilelklcfgemoaa
