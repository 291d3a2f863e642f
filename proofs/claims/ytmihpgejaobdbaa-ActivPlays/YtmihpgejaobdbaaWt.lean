/-
  What some stores leave of a world; rings of places that know who is ahead and who is behind.
-/
import Derived.Test.YtmihpgejaobdbaaMp
namespace Go.Proofs.Ytmihpgejaobdbaa
set_option maxRecDepth 100000
open Go.RowKit
set_option linter.unusedVariables false
/-- The block b holds cells, none of them frozen. -/
def Bk (w : World) (b : Nat) (n : Nat) (t : TypeId) : Prop := ∃ cs : Array Value, w.heap[b]? = some (.cells cs t (0, 0)) ∧ cs.size = n
theorem Bk.lt {w : World} {b n : Nat} {t : TypeId} (h : Bk w b n t) : b < w.heap.size := by
  obtain ⟨cs, h, _⟩ := h
  exact lt_of_block h
theorem Bk.free {w : World} {b n : Nat} {t : TypeId} (h : Bk w b n t) (i : Nat) : w.frozen? ⟨b, i, none⟩ = false := by
  obtain ⟨cs, h, _⟩ := h
  simp [World.frozen?, h]
theorem Bk.cell {w : World} {b n : Nat} {t : TypeId} (h : Bk w b n t) {i : Nat} (hi : i < n) : ∃ v, w.cell? ⟨b, i, none⟩ = some v := by
  obtain ⟨cs, h, rfl⟩ := h
  exact ⟨cs[i], by simp [World.cell?, h, hi]⟩
theorem Bk.kept {S : List Nat} {w w' : World} {b n : Nat} {t : TypeId} (h : Bk w b n t) (k : Kept S w w') (hb : b ∉ S) : Bk w' b n t := by
  obtain ⟨cs, h, e⟩ := h
  exact ⟨cs, k.keeps h hb, e⟩
theorem Bk.set {w : World} {b n : Nat} {t : TypeId} (h : Bk w b n t) (q : Addr) (v : Value) (hq : q.spot = none) : Bk (w.setCell q v) b n t := by
  obtain ⟨cs, h, e⟩ := h
  by_cases hb : q.block = b
  · obtain ⟨qb, qo, qs⟩ := q
    simp at hq hb
    subst hq hb
    exact ⟨_, set_at h, by simpa using e⟩
  · exact ⟨cs, (Below.heap_setCell w q v b (fun e => hb e.symm)).trans h, e⟩
/-- What the stores A leave. -/
structure Wrt (w w' : World) (A : List (Addr × Value)) : Prop where
  os : w'.os = w.os
  tape : w'.tape = w.tape
  output : w'.output = w.output
  size : w'.heap.size = w.heap.size
  cell : ∀ q, (∀ a ∈ A, a.1 ≠ q) → w'.cell? q = w.cell? q
  puts : ∀ a ∈ A, w'.cell? a.1 = some a.2
  block : ∀ b, (∀ a ∈ A, a.1.block ≠ b) → w'.heap[b]? = w.heap[b]?
  shape : ∀ b n t, Bk w b n t → Bk w' b n t
theorem Wrt.refl (w : World) : Wrt w w [] := ⟨rfl, rfl, rfl, rfl, fun _ _ => rfl, by simp, fun _ _ => rfl, fun _ _ _ h => h⟩
theorem Wrt.drew {w w' : World} {A : List (Addr × Value)} (h : Wrt w w' A) : Wrt w w'.drew A := ⟨h.os, h.tape, h.output, h.size, h.cell, h.puts, h.block, h.shape⟩
theorem Wrt.drewN {w w' : World} {A : List (Addr × Value)} (h : Wrt w w' A) (n : Nat) : Wrt w (w'.drewN n) A := ⟨h.os, h.tape, h.output, h.size, h.cell, h.puts, h.block, h.shape⟩
theorem Wrt.set {w w' : World} {A : List (Addr × Value)} (h : Wrt w w' A) {b o : Nat} {u : Value} (hc : w'.cell? ⟨b, o, none⟩ = some u) (hn : ∀ a ∈ A, a.1 ≠ ⟨b, o, none⟩) (v : Value) : Wrt w (w'.setCell ⟨b, o, none⟩ v) ((⟨b, o, none⟩, v) :: A) := by
  refine ⟨h.os, h.tape, h.output, by simpa using h.size, fun q hq => ?_, fun a ha => ?_, fun c hc' => ?_, fun c n t hb => (h.shape c n t hb).set _ _ rfl⟩
  · rw [World.cell?_setCell_other _ _ _ _ (hq (⟨b, o, none⟩, v) (List.mem_cons_self ..))]
    exact h.cell q (fun a ha => hq a (by simp [ha]))
  · rcases List.mem_cons.1 ha with rfl | ha
    · exact World.cell?_setCell_same _ _ _ hc
    · rw [World.cell?_setCell_other _ _ _ _ (fun e => hn a ha e.symm)]
      exact h.puts a ha
  · rw [Below.heap_setCell _ _ _ _ (fun e => hc' (⟨b, o, none⟩, v) (List.mem_cons_self ..) e.symm)]
    exact h.block c (fun a ha => hc' a (by simp [ha]))
theorem Wrt.kept {w w' : World} {A : List (Addr × Value)} (h : Wrt w w' A) {S : List Nat} (hS : ∀ a ∈ A, a.1.block ∈ S) : Kept S w w' :=
  ⟨h.os, h.tape, h.output, Nat.le_of_eq h.size.symm, fun k _ hk => h.block k (fun a ha e => hk (e ▸ hS a ha))⟩
/-- A place: its block, and where it begins in it. -/
abbrev Nd : Type := Nat × Nat
abbrev Nd.ad (n : Nd) (i : Nat) : Addr := ⟨n.1, n.2 + i, none⟩
abbrev Nd.pt (n : Nd) : Value := .pointer (some ⟨n.1, n.2, none⟩)
theorem nodup_of {l : List Nd} (h : (l.map (·.1)).Nodup) : l.Nodup := by
  induction l with
  | nil => simp
  | cons x l ih =>
    rw [List.map_cons, List.nodup_cons] at h
    exact List.nodup_cons.2 ⟨fun hx => h.1 (List.mem_map.2 ⟨x, hx, rfl⟩), ih h.2⟩
theorem inj_of {l : List Nd} (h : (l.map (·.1)).Nodup) {a b : Nd} (ha : a ∈ l) (hb : b ∈ l) (e : a.1 = b.1) : a = b := by
  induction l with
  | nil => simp at ha
  | cons x l ih =>
    rw [List.map_cons, List.nodup_cons] at h
    have p := List.mem_cons.1 ha
    have q := List.mem_cons.1 hb
    clear ha hb
    rcases p with p | p <;> rcases q with q | q
    · rw [p, q]
    · exact absurd (List.mem_map.2 ⟨b, q, by rw [← e, p]⟩) h.1
    · exact absurd (List.mem_map.2 ⟨a, p, by rw [e, q]⟩) h.1
    · exact ih h.2 p q
/-- a is ahead of b, and each knows it. -/
def Lk (w : World) (a b : Nd) : Prop := w.cell? (Nd.ad a 2) = some (Nd.pt b) ∧ w.cell? (Nd.ad b 1) = some (Nd.pt a)
/-- Who is the last of some, or else a. -/
def lst (a : Nd) : List Nd → Nd
  | [] => a
  | x :: xs => lst x xs
/-- Who is the first of some, or else z. -/
def hdd (z : Nd) : List Nd → Nd
  | [] => z
  | x :: _ => x
def Path (w : World) : Nd → List Nd → Prop
  | _, [] => True
  | a, x :: xs => Lk w a x ∧ Path w x xs
def Up (w : World) (z : Nd) : List Nd → Prop
  | [] => True
  | y :: ys => Lk w y (hdd z ys) ∧ Up w z ys
/-- From a over ns to z. -/
def Seg (w : World) (z : Nd) : Nd → List Nd → Prop
  | a, [] => Lk w a z
  | a, n :: ns => Lk w a n ∧ Seg w z n ns
theorem seg_up (w : World) (z : Nd) (ys : List Nd) : ∀ a, Seg w z a ys ↔ Lk w a (hdd z ys) ∧ Up w z ys := by
  induction ys with
  | nil => intro a; simp [Seg, Up, hdd]
  | cons y ys ih => intro a; rw [Seg, Up, hdd, ih y]
theorem seg_split (w : World) (z : Nd) (xs ys : List Nd) : ∀ a, Seg w z a (xs ++ ys) ↔ Path w a xs ∧ Lk w (lst a xs) (hdd z ys) ∧ Up w z ys := by
  induction xs with
  | nil => intro a; rw [List.nil_append, seg_up]; simp [Path, lst]
  | cons x xs ih => intro a; rw [List.cons_append, Seg, Path, lst, ih x, and_assoc]
theorem lst_mem (xs : List Nd) : ∀ a, lst a xs ∈ a :: xs := by
  induction xs with
  | nil => intro a; simp [lst]
  | cons x xs ih => intro a; rw [lst]; exact List.mem_cons_of_mem _ (ih x)
theorem hdd_mem (z : Nd) (ys : List Nd) : hdd z ys ∈ ys ++ [z] := by cases ys <;> simp [hdd]
theorem Path.same {w w' : World} {xs : List Nd} : ∀ {a : Nd}, Path w a xs → (a :: xs).Nodup → (∀ m ∈ a :: xs, m ≠ lst a xs → w'.cell? (Nd.ad m 2) = w.cell? (Nd.ad m 2)) → (∀ m ∈ xs, w'.cell? (Nd.ad m 1) = w.cell? (Nd.ad m 1)) → Path w' a xs := by
  induction xs with
  | nil => intro a h _ _ _; trivial
  | cons x xs ih =>
    intro a h hn h2 h1
    rw [List.nodup_cons] at hn
    have ha : a ≠ lst x xs := fun e => hn.1 (by rw [e]; exact lst_mem xs x)
    refine ⟨⟨(h2 a (by simp) ha).trans h.1.1, (h1 x (by simp)).trans h.1.2⟩, ih h.2 hn.2 (fun m hm hne => h2 m (by simp at hm ⊢; right; exact hm) hne) (fun m hm => h1 m (by simp [hm]))⟩
theorem Up.same {w w' : World} {z : Nd} {ys : List Nd} (h : Up w z ys) (h2 : ∀ m ∈ ys, w'.cell? (Nd.ad m 2) = w.cell? (Nd.ad m 2)) (h1 : ∀ m ∈ ys.tail ++ [z], ys ≠ [] → w'.cell? (Nd.ad m 1) = w.cell? (Nd.ad m 1)) : Up w' z ys := by
  induction ys with
  | nil => trivial
  | cons y ys ih =>
    refine ⟨⟨(h2 y (by simp)).trans h.1.1, (h1 _ (by simpa using hdd_mem z ys) (by simp)).trans h.1.2⟩, ih h.2 (fun m hm => h2 m (by simp [hm])) (fun m hm hne => h1 m ?_ (by simp))⟩
    cases ys with
    | nil => simp at hne
    | cons y' ys => simp at hm ⊢; rcases hm with hm | hm; exact .inr (.inl hm); exact .inr (.inr hm)
theorem Nd.ad_inj {a b : Nd} {i j : Nat} (h : Nd.ad a i = Nd.ad b j) : a.1 = b.1 ∧ a.2 + i = b.2 + j := by
  injection h with h1 h2
  exact ⟨h1, h2⟩
/-- One is taken out. -/
theorem ring_out {w w' : World} {e n : Nd} {xs ys : List Nd} (h : Seg w e e (xs ++ n :: ys)) (hd : ((xs ++ n :: ys).map (·.1)).Nodup) (he : e.1 ∉ (xs ++ n :: ys).map (·.1))
    {v1 v2 : Value} (hw : Wrt w w' [(Nd.ad n 2, v2), (Nd.ad n 1, v1), (Nd.ad (hdd e ys) 1, Nd.pt (lst e xs)), (Nd.ad (lst e xs) 2, Nd.pt (hdd e ys))]) : Seg w' e e (xs ++ ys) := by
  obtain ⟨h1, h2, h3⟩ := (seg_split w e xs (n :: ys) e).1 h
  rw [List.map_append, List.map_cons, List.nodup_append] at hd
  obtain ⟨d1, d2, d3⟩ := hd
  rw [List.nodup_cons] at d2
  have inx : ∀ m ∈ xs, m.1 ∈ xs.map (·.1) := fun m hm => List.mem_map.2 ⟨m, hm, rfl⟩
  have iny : ∀ m ∈ ys, m.1 ∈ ys.map (·.1) := fun m hm => List.mem_map.2 ⟨m, hm, rfl⟩
  have hex : ∀ m ∈ xs, m.1 ≠ e.1 := fun m hm h => he (by rw [List.map_append]; exact List.mem_append.2 (.inl (h ▸ inx m hm)))
  have hey : ∀ m ∈ ys, m.1 ≠ e.1 := fun m hm h => he (by rw [List.map_append]; exact List.mem_append.2 (.inr (List.mem_cons_of_mem _ (h ▸ iny m hm))))
  have hen : n.1 ≠ e.1 := fun h => he (by rw [List.map_append]; exact List.mem_append.2 (.inr (by simp [h])))
  have hnx : ∀ m ∈ xs, m.1 ≠ n.1 := fun m hm h => d3 _ (inx m hm) n.1 (by simp) h
  have hny : ∀ m ∈ ys, m.1 ≠ n.1 := fun m hm h => d2.1 (h ▸ iny m hm)
  have hxy : ∀ m ∈ xs, ∀ k ∈ ys, m.1 ≠ k.1 := fun m hm k hk h => d3 _ (inx m hm) k.1 (List.mem_cons_of_mem _ (iny k hk)) h
  have nodx : (e :: xs).Nodup := List.nodup_cons.2 ⟨fun h => hex e h rfl, nodup_of d1⟩
  have hdv : hdd e ys ∈ ys ∨ hdd e ys = e := by simpa using hdd_mem e ys
  have hlv : lst e xs = e ∨ lst e xs ∈ xs := by simpa using lst_mem xs e
  have hnd : n.1 ≠ (hdd e ys).1 := by
    rcases hdv with h | h
    · exact fun h' => hny _ h h'.symm
    · rw [h]; exact hen
  have hnl : n.1 ≠ (lst e xs).1 := by
    rcases hlv with h | h
    · rw [h]; exact hen
    · exact fun h' => hnx _ h h'.symm
  have key : ∀ (m : Nd) (i : Nat), m.1 ≠ n.1 → (i = 1 → m ≠ hdd e ys) → (i = 2 → m ≠ lst e xs) → (i = 1 ∨ i = 2) → (m ∈ xs ∨ m ∈ ys ∨ m = e) → w'.cell? (Nd.ad m i) = w.cell? (Nd.ad m i) := by
    intro m i hm hA hB hi hmem
    refine hw.cell _ fun a ha e' => ?_
    have same : ∀ q : Nd, q = e ∨ q ∈ xs ∨ q ∈ ys → m.1 = q.1 → m = q := by
      intro q hq hmq
      rcases hmem with hm1 | hm1 | hm1 <;> rcases hq with hq | hq | hq
      · subst hq; exact absurd hmq (hex m hm1)
      · exact inj_of d1 hm1 hq hmq
      · exact absurd hmq (hxy m hm1 q hq)
      · subst hq; exact absurd hmq (hey m hm1)
      · exact absurd hmq.symm (hxy q hq m hm1)
      · exact inj_of d2.2 hm1 hq hmq
      · subst hm1 hq; rfl
      · subst hm1; exact absurd hmq.symm (hex q hq)
      · subst hm1; exact absurd hmq.symm (hey q hq)
    simp only [List.mem_cons, List.not_mem_nil, or_false] at ha
    rcases ha with rfl | rfl | rfl | rfl
    · exact hm (Nd.ad_inj e').1.symm
    · exact hm (Nd.ad_inj e').1.symm
    · obtain ⟨e1, e2⟩ := Nd.ad_inj e'
      have := same (hdd e ys) (by rcases hdv with h | h; exact .inr (.inr h); exact .inl h) e1.symm
      rcases hi with rfl | rfl
      · exact hA rfl this
      · rw [this] at e2; omega
    · obtain ⟨e1, e2⟩ := Nd.ad_inj e'
      have := same (lst e xs) (by rcases hlv with h | h; exact .inl h; exact .inr (.inl h)) e1.symm
      rcases hi with rfl | rfl
      · rw [this] at e2; omega
      · exact hB rfl this
  refine (seg_split w' e xs ys e).2 ⟨h1.same nodx (fun m hm hne => ?_) (fun m hm => ?_), ⟨hw.puts (Nd.ad (lst e xs) 2, Nd.pt (hdd e ys)) (by simp), hw.puts (Nd.ad (hdd e ys) 1, Nd.pt (lst e xs)) (by simp)⟩, Up.same h3.2 (fun m hm => ?_) (fun m hm hne => ?_)⟩
  · rcases List.mem_cons.1 hm with rfl | hm
    · exact key m 2 hen.symm (by omega) (fun _ => hne) (.inr rfl) (.inr (.inr rfl))
    · exact key m 2 (hnx m hm) (by omega) (fun _ => hne) (.inr rfl) (.inl hm)
  · refine key m 1 (hnx m hm) (fun _ h => ?_) (by omega) (.inl rfl) (.inl hm)
    rcases hdv with h' | h'
    · exact hxy m hm _ h' (by rw [← h])
    · rw [h'] at h; exact hex m hm (by rw [h])
  · refine key m 2 (hny m hm) (by omega) (fun _ h => ?_) (.inr rfl) (.inr (.inl hm))
    rcases hlv with h' | h'
    · rw [h'] at h; exact hey m hm (by rw [h])
    · exact hxy _ h' m hm (by rw [h])
  · cases ys with
    | nil => exact absurd rfl hne
    | cons y ys =>
      simp only [List.tail_cons, List.mem_append, List.mem_singleton] at hm
      rcases hm with hm | rfl
      · refine key m 1 (hny m (by simp [hm])) (fun _ h => ?_) (by omega) (.inl rfl) (.inr (.inl (by simp [hm])))
        have := List.nodup_cons.1 (nodup_of d2.2)
        exact this.1 (by rw [← show m = y from h]; exact hm)
      · exact key m 1 hen.symm (fun _ h => hey y (by simp) (by rw [← show m = y from h])) (by omega) (.inl rfl) (.inr (.inr rfl))
/-- One is laid behind all others. -/
theorem ring_in {w w' : World} {e n : Nd} {xs : List Nd} (h : Seg w e e xs) (hd : (xs.map (·.1)).Nodup) (he : e.1 ∉ xs.map (·.1)) (hn : n.1 ∉ xs.map (·.1)) (hne : n.1 ≠ e.1)
    (hw : Wrt w w' [(Nd.ad e 1, Nd.pt n), (Nd.ad (lst e xs) 2, Nd.pt n), (Nd.ad n 2, Nd.pt e), (Nd.ad n 1, Nd.pt (lst e xs))]) : Seg w' e e (xs ++ [n]) := by
  have h := (seg_split w e xs [] e).1 (by simpa using h)
  have inx : ∀ m ∈ xs, m.1 ∈ xs.map (·.1) := fun m hm => List.mem_map.2 ⟨m, hm, rfl⟩
  have hex : ∀ m ∈ xs, m.1 ≠ e.1 := fun m hm h => he (h ▸ inx m hm)
  have hnx : ∀ m ∈ xs, m.1 ≠ n.1 := fun m hm h => hn (h ▸ inx m hm)
  have nodx : (e :: xs).Nodup := List.nodup_cons.2 ⟨fun h => hex e h rfl, nodup_of hd⟩
  have hlv : lst e xs = e ∨ lst e xs ∈ xs := by simpa using lst_mem xs e
  refine (seg_split w' e xs [n] e).2 ⟨h.1.same nodx (fun m hm hne' => ?_) (fun m hm => ?_), ⟨hw.puts (Nd.ad (lst e xs) 2, Nd.pt n) (by simp), hw.puts (Nd.ad n 1, Nd.pt (lst e xs)) (by simp)⟩, ⟨hw.puts (Nd.ad n 2, Nd.pt e) (by simp), hw.puts (Nd.ad e 1, Nd.pt n) (by simp)⟩, trivial⟩
  · refine hw.cell _ fun a ha e' => ?_
    simp only [List.mem_cons, List.not_mem_nil, or_false] at ha hm
    have hmn : m.1 ≠ n.1 := by
      rcases hm with rfl | hm
      · exact hne.symm
      · exact hnx m hm
    rcases ha with rfl | rfl | rfl | rfl
    · obtain ⟨e1, e2⟩ := Nd.ad_inj e'
      rcases hm with rfl | hm
      · omega
      · exact hex m hm e1.symm
    · obtain ⟨e1, e2⟩ := Nd.ad_inj e'
      refine hne' ?_
      rcases hlv with h' | h' <;> rcases hm with hm | hm
      · rw [h', hm]
      · rw [h'] at e1; exact absurd e1.symm (hex m hm)
      · subst hm; exact absurd e1 (hex _ h')
      · exact inj_of hd hm h' e1.symm
    · exact hmn (Nd.ad_inj e').1.symm
    · exact hmn (Nd.ad_inj e').1.symm
  · refine hw.cell _ fun a ha e' => ?_
    simp only [List.mem_cons, List.not_mem_nil, or_false] at ha
    rcases ha with rfl | rfl | rfl | rfl
    · exact hex m hm (Nd.ad_inj e').1.symm
    · obtain ⟨e1, e2⟩ := Nd.ad_inj e'
      rcases hlv with h' | h'
      · rw [h'] at e1; exact hex m hm e1.symm
      · have := inj_of hd hm h' e1.symm
        rw [← this] at e2
        omega
    · exact hnx m hm (Nd.ad_inj e').1.symm
    · exact hnx m hm (Nd.ad_inj e').1.symm
end Go.Proofs.Ytmihpgejaobdbaa
