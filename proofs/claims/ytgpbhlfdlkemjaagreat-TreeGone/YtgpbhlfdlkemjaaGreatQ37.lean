import Derived.Test.YtgpbhlfdlkemjaaGreatQ36
/-
  What a table weighs; a Tree's disk and free blocks; SameInts.
-/
namespace Go.Proofs.YtgpbhlfdlkemjaaGreat
open Go.RowKit
set_option linter.unusedVariables false

theorem sum_tset (f : KV → Nat) (T : List KV) (c : Cg) : ((tset T c).map f).sum ≤ (T.map f).sum + f (c.key, c.val) := by
  unfold tset
  have h : ∀ l : List KV, ((l.filter (fun x => decide (x.1 < c.key))).map f).sum + ((l.filter (fun x => decide (c.key < x.1))).map f).sum ≤ (l.map f).sum := by
    intro l
    induction l with
    | nil => simp
    | cons a l ih =>
      by_cases h1 : a.1 < c.key
      · have h2 := klt_asymm h1
        simp only [List.filter_cons, h1, h2, decide_true, decide_false, if_true, List.map_cons, List.sum_cons]
        simp
        omega
      · by_cases h2 : c.key < a.1
        · simp only [List.filter_cons, h1, h2, decide_true, decide_false, if_true, List.map_cons, List.sum_cons]
          simp
          omega
        · simp only [List.filter_cons, h1, h2, decide_false, List.map_cons, List.sum_cons]
          simp
          omega
  have h1 := h T
  have h2 : ((if c.gone then [] else [(c.key, c.val)] : List KV).map f).sum ≤ f (c.key, c.val) := by split <;> simp
  rw [List.map_append, List.map_append, List.sum_append, List.sum_append]
  omega
theorem sum_tapp (f : KV → Nat) : ∀ (cs : List Cg) (T : List KV), ((tapp T cs).map f).sum ≤ (T.map f).sum + (cs.map fun c => f (c.key, c.val)).sum
  | [], T => by simp [tapp]
  | c :: cs, T => by
    have h1 := sum_tapp f cs (tset T c)
    have h2 := sum_tset f T c
    rw [tapp_cons, List.map_cons, List.sum_cons]
    omega
/-- A table of at most n keys, whose values have at most B bytes. -/
structure TOk (T : List KV) (n B : Nat) : Prop where
  up : UpK T
  each : ∀ x ∈ T, x.1.length ≤ 64 ∧ x.2.length ≤ 20000
  len : T.length ≤ n
  sum : (T.map fun x => x.2.length).sum ≤ B
theorem TOk.nil (n B : Nat) : TOk [] n B := ⟨List.Pairwise.nil, by simp, by simp, by simp⟩
theorem each_tset {P : KV → Prop} {T : List KV} {c : Cg} (h : ∀ x ∈ T, P x) (hc : P (c.key, c.val)) : ∀ x ∈ tset T c, P x := fun x hx => by
  rcases mem_tset.1 hx with ⟨_, rfl⟩ | ⟨h1, _⟩
  · exact hc
  · exact h x h1
theorem each_tapp {P : KV → Prop} : ∀ (cs : List Cg) {T : List KV}, (∀ x ∈ T, P x) → (∀ c ∈ cs, P (c.key, c.val)) → ∀ x ∈ tapp T cs, P x
  | [], _, h, _ => h
  | c :: cs, _, h, hc => each_tapp cs (each_tset h (hc c (by simp))) (fun d hd => hc d (List.mem_cons_of_mem _ hd))
theorem TOk.app {T : List KV} {n B : Nat} (h : TOk T n B) {cs : List Cg} (hw : WrongIs cs 0) : TOk (tapp T cs) (n + cs.length) (B + (cs.map fun c => c.val.length).sum) := by
  obtain ⟨_, hz⟩ := hw.zero
  refine ⟨up_tapp _ h.up, each_tapp cs h.each (fun c hc => ⟨(hz c hc).2.1, (hz c hc).2.2⟩), ?_, ?_⟩
  · have h1 := tapp_len cs T
    have h2 := h.len
    omega
  · have h1 := sum_tapp (fun x => x.2.length) cs T
    have h2 := h.sum
    simp only at h1
    omega
theorem TOk.more {T : List KV} {n B n' B' : Nat} (h : TOk T n B) (hn : n ≤ n') (hB : B ≤ B') : TOk T n' B' := ⟨h.up, h.each, Nat.le_trans h.len hn, Nat.le_trans h.sum hB⟩
theorem cstK_le (x : KV) (h : x.1.length ≤ 64) : 119 * cstK x ≤ x.2.length := by
  unfold cstK
  split <;> omega
theorem TOk.cost {T : List KV} {n B : Nat} (h : TOk T n B) (hB : B ≤ 100000) : (T.map cstK).sum ≤ 900 := by
  have h1 : ∀ l : List KV, (∀ x ∈ l, x.1.length ≤ 64) → 119 * (l.map cstK).sum ≤ (l.map fun x => x.2.length).sum := by
    intro l
    induction l with
    | nil => simp
    | cons a l ih =>
      intro hl
      have h1 := ih (fun x hx => hl x (List.mem_cons_of_mem _ hx))
      have h2 := cstK_le a (hl a (by simp))
      simp only [List.map_cons, List.sum_cons]
      omega
  have h2 := h1 T (fun x hx => (h.each x hx).1)
  have h3 := h.sum
  omega
/-- The values' bytes, by the weights. -/
theorem vals_wgt {rs : List Cq} (h : ∀ x ∈ rs, x.c.val.length ≤ 20000) : ((rs.map Cq.c).map fun c => c.val.length).sum ≤ (rs.map wgt).sum := by
  rw [List.map_map]
  induction rs with
  | nil => simp
  | cons x rs ih =>
    have h1 := ih (fun y hy => h y (List.mem_cons_of_mem _ hy))
    have h2 := h x (by simp)
    have h3 : x.c.val.length ≤ wgt x := by unfold wgt; omega
    simp only [List.map_cons, List.sum_cons]
    have h4 : ((fun c : Cg => c.val.length) ∘ Cq.c) x = x.c.val.length := rfl
    omega
theorem WrongIs.vals {rs : List Cq} (h : WrongIs (rs.map Cq.c) 0) : ((rs.map Cq.c).map fun c => c.val.length).sum ≤ (rs.map wgt).sum := vals_wgt fun x hx => (h.zero.2 x.c (List.mem_map_of_mem hx)).2.2
theorem WrongIs.lit {l : List Cg} {er : Int} (h : WrongIs l er) (h0 : er ≠ 0) : er = 1 ∨ er = 4 := by
  rcases h with ⟨_, h⟩ | ⟨_, _, h⟩ | ⟨_, _, h⟩
  · exact .inl h
  · exact .inr h
  · exact absurd h h0
theorem perm_tail {a b c : List Nat} (h : (a ++ b).Perm (a ++ c)) : b.Perm c := (List.perm_append_left_iff a).1 h
theorem rises_one {a b l m : List Nat} (h : Rises a l) (h' : Rises b m) (hp : l.Perm m) : a = b :=
  List.Perm.eq_of_pairwise (le := fun x y => x ≤ y) (fun x y _ _ h1 h2 => Nat.le_antisymm h1 h2) (h.2.imp (fun h => Nat.le_of_lt h)) (h'.2.imp (fun h => Nat.le_of_lt h)) ((h.1.trans hp).trans h'.1.symm)
section
variable {w : World}
set_option maxRecDepth 100000 in
set_option maxHeartbeats 1000000 in
theorem sameInts_any {v v' : Value} {l : List Nat} (hr : ReadsI w v l) (hr' : ReadsI w v' l) (hl : l.length ≤ 1000000) : Calls Tryz.prog 26 #[v, v'] w fun e w' => e = .returned (.bool true) ∧ Kept [] w w' := by
  obtain ⟨a, c, rfl, h1, h2⟩ := hr.form
  obtain ⟨a', c', rfl, h1', h2'⟩ := hr'.form
  have HR := Hid.mk hr
  have HR' := Hid.mk hr'
  obtain ⟨N, hN⟩ : ∃ N, Hid (l.length = N) := ⟨_, rfl⟩
  rw [hN.out] at hl HR HR' h1 h1'
  clear hr hr'
  rw [hN.out]
  go_enter Tryz.func26, Tryz.ntmps26
  go_wp2_with fail
  go_loopw [13] (fun i wr => ∃ j : Nat, i = .int .i64 (j : Int) ∧ j ≤ N ∧ Kept [] w wr) (fun i _ => N - (intOf i).toNat)
  case atStart => exact ⟨0, rfl, by omega, Kept.refl [] w⟩
  case round =>
    obtain ⟨j, rfl, hj, kk⟩ := hrel
    by_cases hlt : j < N
    · obtain ⟨x, hx⟩ : ∃ x, l[j]? = some x := ⟨_, List.getElem?_eq_getElem (by have := hN.out; omega)⟩
      obtain ⟨b, o, d, e, hcell⟩ := (HR.out.kept kk (by simp)).at j x hx
      injection e with e eN e2
      subst e e2
      clear eN
      obtain ⟨b', o', d', e', hcell'⟩ := (HR'.out.kept kk (by simp)).at j x hx
      injection e' with e' eN' e2'
      subst e' e2'
      clear eN'
      have HK := Hid.mk kk
      clear hx kk HR HR'
      have hjI : (j : Int) < (N : Int) := by omega
      go_wp2_with fail
      go_quiet (fail)
      go_wp2
      go_roundw
      case rel => exact ⟨j + 1, by go_num, by omega, HK.out.drewN _⟩
      case measure => simp [intOf]; omega
    · obtain rfl : j = N := by omega
      go_wp2
      go_ret
      exact ⟨rfl, kk⟩
end
section
variable {w0 w w' : World} {tb p q : Nat} {V V' : Nat → Prop} {ρ : Rho} {t : AT} {old : List Nat} {s s' : St} {fr ct : Nat} {L : List Ent} {fl : List Nat}
theorem IsTree.disk {T : Nat → Prop} {vo : Value} (h : IsTree w0 w tb p q T V ρ t vo old s fr ct L fl) (hs : SyP w0 w' q p s' fr ct L fl (fun b => T b ∨ b = tb ∨ vo.ownBlock = some b ∨ V b)) (k : KP (fun b => T b ∨ b = tb ∨ vo.ownBlock = some b ∨ V b) w w') : IsTree w0 w' tb p q T V ρ t vo old s' fr ct L fl := by
  obtain ⟨S, k, hS⟩ := k
  have hz := k.size
  exact ⟨k.keeps h.box (hS tb (.inr (.inl rfl))), h.own.kept k (fun g hg => hS g (.inr (.inr (.inl hg)))), h.tree.kept k (fun x hx hT => hS x (.inl hT) hx), h.up, h.sz, hs, fun b hb => Nat.lt_of_lt_of_le (h.lt b hb) hz, h.ge, h.tt, h.tv, fun b hb => h.blank b (by omega), h.ok, h.olds, h.root, h.fr1⟩
theorem KP.less {X Y : Nat → Prop} (k : KP X w w') (h : ∀ x, Y x → X x) : KP Y w w' := by
  obtain ⟨S, k, hS⟩ := k
  exact ⟨S, k, fun x hx => hS x (h x hx)⟩
theorem tre_free (h : Tre w0 w tb p q V ρ t old s fr ct L fl) : Calls Tryz.prog 16 #[Pp p] w fun e w' => ∃ v ns, e = .returned v ∧ OwnsI w' v ns ∧ Rises ns fl ∧ Kept [] w w' ∧ Fresh w v := by
  obtain ⟨T, vo, h⟩ := h
  exact psy_free h.sy
theorem tre_fuse (h : Tre w0 w tb p q V ρ t old s fr ct L fl) (f : Nat) (hf : f ≤ 1000) : Calls Tryz.prog 30 #[Pp q, .int .i64 (f : Int)] w fun e w' => e = .returned (.tuple #[]) ∧ Tre w0 w' tb p q V ρ t old { s with fuse := (f : Int) } fr ct L fl ∧ KP V w w' := by
  obtain ⟨T, vo, h⟩ := h
  refine (psy_fuse h.sy f hf).mono ?_
  rintro e w' ⟨rfl, hs, k⟩
  exact ⟨rfl, ⟨T, vo, h.disk hs k⟩, k.less fun x hx => .inr (.inr (.inr hx))⟩
theorem tre_restart (h : Tre w0 w tb p q V ρ t old s fr ct L fl) : Calls Tryz.prog 32 #[Pp q] w fun e w' => e = .returned (.tuple #[]) ∧ Tre w0 w' tb p q V ρ t old { s with fuse := -1, down := false } fr ct L fl ∧ KP V w w' := by
  obtain ⟨T, vo, h⟩ := h
  refine (psy_restart h.sy).mono ?_
  rintro e w' ⟨rfl, hs, k⟩
  exact ⟨rfl, ⟨T, vo, h.disk hs k⟩, k.less fun x hx => .inr (.inr (.inr hx))⟩
theorem tre_down (h : Tre w0 w tb p q V ρ t old s fr ct L fl) : Calls Tryz.prog 31 #[Pp q] w fun e w' => e = .returned (.bool s.down) ∧ w = w' := by
  obtain ⟨T, vo, h⟩ := h
  obtain ⟨F, G, T', hD, _⟩ := h.sy
  exact down_any hD
theorem Tre.okp (h : Tre w0 w tb p q V ρ t old s fr ct L fl) : Okp s fr ct L fl := by
  obtain ⟨T, vo, h⟩ := h
  exact h.sy.ok
/-- The blocks of a table that lie in memory. -/
def TV (db : Nat) (v : Value) (T : List KV) (b : Nat) : Prop := b = db ∨ (T ≠ [] ∧ v.ownBlock = some b)
theorem TV.lt {db : Nat} {v : Value} {T : List KV} (h : IsTab w db v T) {g : Nat} (hx : TV db v T g) : g < w.heap.size := by
  rcases hx with rfl | ⟨hT, hg⟩
  · exact (Array.getElem?_eq_some_iff.1 h.box).1
  · have he : CT T ≠ [] := fun e => hT (by simpa [CT] using e)
    obtain ⟨a, cap, h1, h2, h3, h4, h5⟩ := h.row
    obtain ⟨b, o, rfl, hc⟩ := h5 he
    obtain ⟨r, rs, hr⟩ := List.exists_cons_of_ne_nil he
    have hw := CT_wide T r (by rw [hr]; simp)
    obtain ⟨x, xs, rfl⟩ : ∃ x xs, r = x :: xs := by
      cases r with
      | nil => simp at hw
      | cons x xs => exact ⟨x, xs, rfl⟩
    have hcell := hc 0 _ (by rw [hr]; rfl) 0 x rfl
    have hb : g = b := by
      rw [h1] at hg
      simp [Value.ownBlock] at hg
      omega
    subst hb
    unfold World.cell? at hcell
    rcases Nat.lt_or_ge g w.heap.size with hlt | hge
    · exact hlt
    · rw [Array.getElem?_eq_none hge] at hcell
      simp at hcell
theorem IsTab.keptV {db : Nat} {v : Value} {T : List KV} (h : IsTab w db v T) {S : List Nat} (k : Kept S w w') (hS : ∀ x, TV db v T x → x ∉ S) : IsTab w' db v T := by
  refine ⟨k.keeps h.box (hS db (.inl rfl)), ?_, h.apart⟩
  by_cases he : T = []
  · obtain ⟨a, cap, h1, h2, h3, h4, _⟩ := h.row
    exact ⟨a, cap, h1, h2, h3, h4, fun hne => absurd (by rw [he]; rfl) hne⟩
  · exact h.row.kept k fun g hg => hS g (.inr ⟨he, hg⟩)
theorem IsTab.kp {db : Nat} {v : Value} {T : List KV} (h : IsTab w db v T) (k : KP V w w') (hV : ∀ x, TV db v T x → V x) : IsTab w' db v T := by
  obtain ⟨S, k, hS⟩ := k
  exact h.keptV k fun x hx => hS x (hV x hx)
end
end Go.Proofs.YtgpbhlfdlkemjaaGreat
/-
  TreeGone, its calls in their order.
-/
namespace Go.Proofs.YtgpbhlfdlkemjaaGreat
open Go.RowKit
set_option linter.unusedVariables false

/-- The change that takes a key out. -/
def goneQ (x : Cq) : Cq := ⟨⟨x.c.key, [], true⟩, none, 0⟩
/-- From the list of keys that are to go on. -/
def GoneT (tb : Nat) (I R : World → Prop) (v : Value) (w : World) : Prop :=
  Calls Tryz.prog 18 #[Pp tb] w fun e w1 => e = .returned (.tuple #[]) ∧ Calls Tryz.prog 14 #[Pp tb, v] w1 fun e w2 => ∃ er : Int, e = .returned (.int .i64 er) ∧ ((er = 6 ∧ R w2) ∨ (er = 0 ∧ Calls Tryz.prog 20 #[Pp tb, Sv [], Sv []] w2 fun e w3 => ∃ a c, e = .returned (.slice a 0 c) ∧ Calls Tryz.prog 18 #[Pp tb] w3 fun e w4 => e = .returned (.tuple #[]) ∧ I w4))
/-- From the first Apply's answer on. -/
def GoneA (w0 : World) (rs : List Cq) (tb db : Nat) (I R : World → Prop) (w : World) (er : Int) : Prop :=
  (er = 6 ∧ R w) ∨ (er = 0 ∧ Calls Tryz.prog 19 #[Pp tb, Pp db] w fun e w1 => e = .returned (.bool true) ∧ Kept [] w0 w1 ∧ ∀ W v, Kept [] w1 W → OwnsR 61 3 W v (CQ (rs.map goneQ)) → Fresh w1 v → GoneT tb I R v W)
/-- A round. -/
def GoneS (w0 : World) (rs : List Cq) (tb : Nat) (v : Value) (I R : World → Prop) (w : World) : Prop :=
  Calls Tryz.prog 17 #[Pp w.heap.size, v] (w.alloc (.cells #[.slice none 0 0] 38)) fun e w1 => e = .returned (.tuple #[]) ∧ Calls Tryz.prog 14 #[Pp tb, v] w1 fun e w2 => ∃ er : Int, e = .returned (.int .i64 er) ∧ GoneA w0 rs tb w.heap.size I R w2 er
def GoneF (I : Nat → Nat → World → Prop) (w : World) : Prop :=
  Calls Tryz.prog 12 #[.int .i64 2501] w fun e w3 => ∃ q, e = .returned (Pp q) ∧ Calls Tryz.prog 11 #[Pp q, .int .i64 1, .int .i64 2500, .slice none 0 0] w3 fun e w4 => ∃ p, e = .returned (.tuple #[Pp p, .int .i64 0]) ∧ Calls Tryz.prog 13 #[Pp p, .int .i64 0] w4 fun e w5 => ∃ tb, e = .returned (.tuple #[Pp tb, .int .i64 0]) ∧ I tb 0 w5
def GoneW (I : Nat → Nat → World → Prop) (R : World → Prop) (w : World) (er : Int) : Prop := (er ≠ 0 ∧ Calls Tryz.prog 9 #[] w fun e w1 => e = .returned (.bool true) ∧ R w1) ∨ (er = 0 ∧ GoneF I w)
def GoneB (v : Value) (I : Nat → Nat → World → Prop) (R : World → Prop) (w : World) (b : Bool) : Prop :=
  (b = false ∧ Calls Tryz.prog 9 #[] w fun e w1 => e = .returned (.bool true) ∧ R w1) ∨ (b = true ∧ Calls Tryz.prog 15 #[v] w fun e w1 => ∃ er : Int, e = .returned (.int .i64 er) ∧ GoneW I R w1 er)
/-- While the list of keys that are to go is made. -/
def GoneAt (w3 : World) (rs : List Cq) (j : Nat) (w : World) (v : Value) : Prop := OwnsR 61 3 w v (CQ ((rs.take j).map goneQ)) ∧ Kept [] w3 w ∧ Fresh w3 v
theorem GoneAt.whole {w3 w : World} {rs : List Cq} {j : Nat} {v : Value} (h : GoneAt w3 rs j w v) (hj : rs.length ≤ j) : OwnsR 61 3 w v (CQ (rs.map goneQ)) := by
  have := h.1
  rwa [List.take_of_length_le hj] at this
theorem GoneAt.form {w3 w : World} {rs : List Cq} {j : Nat} {v : Value} (h : GoneAt w3 rs j w v) : ∃ a n c, v = .slice a n c := by
  obtain ⟨a, c, e, _⟩ := h.1.form
  exact ⟨a, _, c, e⟩
theorem GoneAt.more {w3 w : World} {rs : List Cq} {j : Nat} {v : Value} (h : GoneAt w3 rs j w v) {x : Cq} (hx : rs[j]? = some x) (hl : rs.length ≤ 1000) : ∃ ad c w', (Builtin.append_ #[40, 40] 40 #[v, .slice (some ⟨w.heap.size, 0, none⟩) 1 1]).run Tryz.prog (w.alloc (.cells #[Sv x.c.key, .slice none 0 0, .bool true] 61)) = .ok (.slice ad (j + 1) c) w' ∧ GoneAt w3 rs (j + 1) w' (.slice ad (j + 1) c) := by
  obtain ⟨h1, h2, h3⟩ := h
  have hj : j < rs.length := (List.getElem?_eq_some_iff.1 hx).1
  have hlen : (CQ ((rs.take j).map goneQ)).length = j := by rw [CQ_length, List.length_map, List.length_take]; omega
  obtain ⟨ad, c, w', g1, g2, g3, g4⟩ := append_rowR rt40 h1 (encQ (goneQ x)) rfl (encQ_one _) (by omega) 61 (0, 0) 40
  rw [hlen] at g1 g2 g4
  have e : CQ ((rs.take j).map goneQ) ++ [encQ (goneQ x)] = CQ ((rs.take (j + 1)).map goneQ) := by rw [tsnoc hx, List.map_append, CQ_append]; rfl
  rw [e] at g2
  refine ⟨ad, c, w', g1, g2, h2.trans g3 (fun b hb => .inr (h3 b (by simpa using hb))), fun g hg => ?_⟩
  rcases g4 g hg with h | h
  · exact h3 g h
  · exact Nat.le_trans h2.size h
section
variable {w : World}
set_option maxRecDepth 100000 in
set_option maxHeartbeats 4000000 in
theorem gone_walk {R : World → Prop} {I : Nat → Nat → World → Prop} {a0 : Option Addr} {N c0 m : Nat} {rs : List Cq} (hm : m < 256) (hN2 : N ≤ 140737488355328) (hN : Hid (N = rs.length)) (hrow : Hid (RowQ w (.slice a0 N c0) rs))
    (HC : Calls Tryz.prog 9 #[] w fun e w1 => e = .returned (.bool true) ∧ Calls Tryz.prog 10 #[.slice (some ⟨w1.heap.size, 0, none⟩) 1 1] (w1.alloc (.cells #[.slice a0 N c0] 40)) fun e w2 => ∃ b : Bool, e = .returned (.bool b) ∧ GoneB (.slice a0 N c0) I R w2 b)
    (HI : Hid (∀ tb j wr, I tb j wr → N ≤ 500 ∧ (j < m % 6 → GoneS w rs tb (.slice a0 N c0) (I tb (j + 1)) R wr) ∧ (j = m % 6 → R wr))) :
    Calls Tryz.prog 8 #[.slice a0 N c0, .int .u8 (m : Int)] w fun e w' => e = .returned (.bool true) ∧ R w' := by
  obtain ⟨M, hM⟩ : ∃ M, Hid (m % 6 = M) := ⟨_, rfl⟩
  rw [hM.out] at HI
  have hM6 : M < 6 := by rw [← hM.out]; omega
  have hrem : Int.tmod (m : Int) 6 = (M : Int) := by rw [← hM.out]; exact (Int.ofNat_tmod m 6).symm
  go_enter Tryz.func8, Tryz.ntmps8
  go_wp2_with fail
  refine HC.mono ?_
  rintro e w1 ⟨rfl, HC⟩
  go_wp2_with fail
  refine HC.mono ?_
  rintro e w2 ⟨b, rfl, ⟨rfl, HC⟩ | ⟨rfl, HC⟩⟩
  · go_wp2_with fail
    refine HC.mono ?_
    rintro e w3 ⟨rfl, hR⟩
    have HR := Hid.mk hR
    clear hR HC
    go_wp2
    go_ret
    exact ⟨rfl, HR.out⟩
  · go_wp2_with fail
    refine HC.mono ?_
    rintro e w3 ⟨er, rfl, ⟨he, HC⟩ | ⟨rfl, HF⟩⟩
    · go_wp2_with fail
      refine HC.mono ?_
      rintro e w3 ⟨rfl, hR⟩
      have HR := Hid.mk hR
      clear hR HC
      go_wp2
      go_ret
      exact ⟨rfl, HR.out⟩
    unfold GoneF at HF
    clear HC
    have HC := HF
    clear HF
    go_wp2_with fail
    refine HC.mono ?_
    rintro e w4 ⟨q, rfl, HC⟩
    go_wp2_with fail
    refine HC.mono ?_
    rintro e w5 ⟨p, rfl, HC⟩
    go_wp2_with fail
    refine HC.mono ?_
    rintro e w6 ⟨tb, rfl, hI⟩
    have HS := Hid.mk hI
    clear HC hI
    go_wp2_with fail
    go_loopw [39] (fun i wr => ∃ j : Nat, i = .int .u8 (j : Int) ∧ j ≤ M ∧ Hid (I tb j wr)) (fun i _ => M - (intOf i).toNat)
    case atStart => exact ⟨0, rfl, by omega, HS⟩
    case round =>
      obtain ⟨j, rfl, hj, hI⟩ := hrel
      have h500 := (HI.out tb j wr hI.out).1
      by_cases hlt : j < M
      · have HC := (HI.out tb j wr hI.out).2.1 hlt
        clear hI HS
        unfold GoneS at HC
        go_wp2_with fail
        refine HC.mono ?_
        rintro e w7 ⟨rfl, HC⟩
        generalize wr.heap.size = db at *
        go_wp2_with fail
        refine HC.mono ?_
        rintro e w8 ⟨er, rfl, ⟨rfl, hR⟩ | ⟨rfl, HF⟩⟩
        · have HR := Hid.mk hR
          clear hR HC
          go_wp2
          go_ret
          exact ⟨rfl, HR.out⟩
        clear HC
        go_wp2_with fail
        refine HF.mono ?_
        rintro e w9 ⟨rfl, k9, HG⟩
        have HG := Hid.mk HG
        have HRD : Hid (∀ W, Kept [] w9 W → RowQ W (.slice a0 N c0) rs) := Hid.mk fun W kW => hrow.out.kept (k9.trans kW (by simp)) (by simp)
        clear HF k9
        go_wp2_with fail
        go_loopw [11, 61] (fun v i wr => ∃ k : Nat, i = .int .i64 (k : Int) ∧ k ≤ N ∧ Hid (GoneAt w9 rs k wr v)) (fun _ i _ => N - (intOf i).toNat)
        case atStart => exact ⟨0, rfl, by omega, Hid.mk ⟨OwnsR.nil _ _ _, Kept.refl [] w9, fun g hg => by simp [Value.ownBlock] at hg⟩⟩
        case round =>
          obtain ⟨k, rfl, hk, hA⟩ := hrel
          by_cases hlt2 : k < N
          · obtain ⟨x, hx⟩ : ∃ x, rs[k]? = some x := ⟨_, List.getElem?_eq_getElem (by have := hN.out; omega)⟩
            obtain ⟨b, o, rfl, c0', c1', c2'⟩ := (HRD.out _ hA.out.2.1).at hx
            obtain ⟨ad, cp, w10, hrun, hnx⟩ := hA.out.more hx (by have := hN.out; omega)
            have HNX := Hid.mk hnx
            clear hx hA hnx c1' c2'
            generalize x.c.key = key at *
            go_wp2_with (at_builtin; refine wpList_append_run 40 _ _ rfl rfl _ _ rfl rfl _ _ hrun ?_)
            go_roundw
            case rel => exact ⟨k + 1, by go_num, by omega, HNX⟩
            case measure => simp [intOf]; omega
          · obtain rfl : k = N := by omega
            have HT := HG.out _ _ hA.out.2.1 (hA.out.whole (by have := hN.out; omega)) hA.out.2.2
            obtain ⟨av, nv, cv, hv⟩ := hA.out.form
            subst hv
            unfold GoneT at HT
            clear hA HG HRD
            go_wp2_with fail
            refine HT.mono ?_
            rintro e w11 ⟨rfl, HT⟩
            go_wp2_with fail
            refine HT.mono ?_
            rintro e w12 ⟨er, rfl, ⟨rfl, hR⟩ | ⟨rfl, HF⟩⟩
            · have HR := Hid.mk hR
              clear hR HT
              go_wp2
              go_ret
              exact ⟨rfl, HR.out⟩
            clear HT
            go_wp2_with fail
            refine HF.mono ?_
            rintro e w13 ⟨a13, c13, rfl, HF⟩
            go_wp2_with fail
            refine HF.mono ?_
            rintro e w14 ⟨rfl, hI⟩
            have HI2 := Hid.mk hI
            clear HF hI
            go_wp2
            go_roundw
            case rel => exact ⟨j + 1, by go_num, by omega, HI2⟩
            case measure => simp [intOf]; omega
      · obtain rfl : j = M := by omega
        have HR := Hid.mk ((HI.out tb j wr hI.out).2.2 rfl)
        clear hI HS HI
        go_wp2
        go_ret
        exact ⟨rfl, HR.out⟩
end
end Go.Proofs.YtgpbhlfdlkemjaaGreat
/-
  TreeGone, whole.
-/
namespace Go.Proofs.YtgpbhlfdlkemjaaGreat
open Go.RowKit
set_option linter.unusedVariables false

theorem gone_wrong {rs : List Cq} (h : WrongIs (rs.map Cq.c) 0) : WrongIs ((rs.map goneQ).map Cq.c) 0 := by
  obtain ⟨h1, h2⟩ := h.zero
  have hk : ((rs.map goneQ).map Cq.c).map Cg.key = (rs.map Cq.c).map Cg.key := by simp [List.map_map, goneQ, Function.comp_def]
  refine .inr (.inr ⟨?_, ?_, rfl⟩)
  · rintro (⟨c, hc, hl⟩ | hn)
    · have : c.key ∈ (rs.map Cq.c).map Cg.key := by rw [← hk]; exact List.mem_map_of_mem hc
      obtain ⟨d, hd, e⟩ := List.mem_map.1 this
      have := h2 d hd
      rw [e] at this
      omega
    · rw [hk] at hn
      exact hn h1
  · rintro ⟨c, hc, hl⟩
    simp only [List.map_map, List.mem_map, Function.comp_def] at hc
    obtain ⟨x, _, rfl⟩ := hc
    simp [goneQ] at hl
theorem gone_none {rs : List Cq} (h : WrongIs (rs.map Cq.c) 0) : tapp (tapp [] (rs.map Cq.c)) ((rs.map goneQ).map Cq.c) = [] := by
  refine List.eq_nil_iff_forall_not_mem.2 fun x hx => ?_
  rcases (mem_tapp _ (gone_wrong h).zero.1).1 hx with ⟨c, hc, hg, _⟩ | ⟨h1, h2⟩
  · simp only [List.map_map, List.mem_map, Function.comp_def] at hc
    obtain ⟨y, _, rfl⟩ := hc
    simp [goneQ] at hg
  · rcases (mem_tapp _ h.zero.1).1 h1 with ⟨c, hc, _, rfl⟩ | ⟨h3, _⟩
    · obtain ⟨y, hy, rfl⟩ := List.mem_map.1 hc
      exact h2 (goneQ y).c (List.mem_map_of_mem (List.mem_map_of_mem hy)) rfl
    · simp at h3
/-- Before round j: the tree is empty. -/
structure GoneI (G : Prop) (w0 : World) (p tb j : Nat) (w : World) (q : Nat) (ρ : Rho) (t : AT) (s : St) (L : List Ent) (fl : List Nat) : Prop where
  tre : Tre w0 w tb p q (fun _ => False) ρ t [] s 1 2500 L fl
  its : (itsT t).map kv = []
  ws : s.ws.length ≤ 2920 * j
  down : s.down = false
  fuse : s.fuse < 0
  few : G
def GoneH (G : Prop) (w0 : World) (tb j : Nat) (w : World) : Prop := ∃ p q ρ t s L fl, GoneI G w0 p tb j w q ρ t s L fl
section
variable {G : Prop} {w0 w : World} {p tb j q : Nat} {ρ : Rho} {t : AT} {s : St} {L : List Ent} {fl : List Nat}
theorem gone_step (h : GoneI G w0 p tb j w q ρ t s L fl) {a0 : Option Addr} {c0 : Nat} {rs : List Cq} (hr : RowQ w0 (.slice a0 rs.length c0) rs) (hv : ValsQ w0 rs) (hj : j < 6) (hw : WrongIs (rs.map Cq.c) 0) (hn : rs.length ≤ 500) (hB : (rs.map wgt).sum ≤ 60000) : GoneS w0 rs tb (.slice a0 rs.length c0) (GoneH G w0 tb (j + 1)) (Kept [] w0) w := by
  have hws := h.ws
  have hit : (itsT t).length = 0 := by
    have := congrArg List.length h.its
    simpa using this
  have hvals := hw.vals
  have hok : TOk (tapp [] (rs.map Cq.c)) 500 60000 := ((TOk.nil 0 0).app hw).more (by rw [List.length_map]; omega) (by omega)
  have hz0 : w0.heap.size ≤ w.heap.size := h.tre.k.size
  obtain ⟨W5, hW5⟩ : ∃ W5, w.alloc (.cells #[.slice none 0 0] 38) = W5 := ⟨_, rfl⟩
  have kW5 : Kept [] w W5 := by rw [← hW5]; exact (Kept.refl [] w).alloc _
  have hb5 : W5.heap[w.heap.size]? = some (.cells #[.slice none 0 0] 38 (0, 0)) := by rw [← hW5]; exact heap_alloc_new w _
  unfold GoneS
  rw [hW5]
  obtain ⟨db, hdb⟩ : ∃ db, w.heap.size = db := ⟨_, rfl⟩
  rw [hdb] at hb5 hz0 ⊢
  have hD5 : IsTab W5 db (.slice none 0 0) [] := ⟨hb5, ReadsR.nil 2 W5, by simp [Value.ownBlock]⟩
  have hT5 := h.tre.turn (V' := TV db (.slice none 0 0) []) kW5 (by simp) (fun x hx => by
    rcases hx with rfl | ⟨hx, _⟩
    · exact .inr (by omega)
    · exact absurd rfl hx) (fun x hx => TV.lt hD5 hx)
  have hk5 := hT5.k
  have HK : ∀ W, Kept [db] W5 W → Kept [] w0 W := fun W kW => hk5.trans kW (fun x hx => .inr (by simp at hx; rw [hx]; exact hz0))
  refine (tabApply_any hD5 List.Pairwise.nil (Hid.mk rfl) (Hid.mk fun W kW => hr.kept (HK W kW) (by simp)) (Hid.mk fun W kW => hv.kept (HK W kW) (by simp)) (Hid.mk (by simp; omega)) (by omega)).mono ?_
  rintro e w1 ⟨rfl, v1, hD1, k1, hN1⟩
  have h1 := hT5.turn (V' := TV db v1 (tapp [] (rs.map Cq.c))) k1 (fun x hx => by simp at hx; rw [hx]; exact .inl rfl) (fun x hx => by
    rcases hN1 with ⟨hz, rfl⟩ | hf1
    · have : rs = [] := List.eq_nil_of_length_eq_zero hz
      rw [this] at hx
      exact .inl hx
    · rcases hx with rfl | ⟨_, hx⟩
      · exact .inl (.inl rfl)
      · exact .inr (hf1 x hx)) (fun x hx => TV.lt hD1 hx)
  refine ⟨rfl, (apply_all h1 (hr.kept h1.k (by simp)) (hv.kept h1.k (by simp)) (by omega) (by omega) (fun hw is his => ?_) (by simp) (by omega) h.down).mono ?_⟩
  · rw [h.its] at his
    refine ⟨?_, ?_⟩
    · rw [← List.length_map (f := kv), his]
      exact hok.len
    · rw [cst_kv, his]
      exact hok.cost (by omega)
  rintro e w2 ⟨er, rfl, hap⟩
  refine ⟨er, rfl, ?_⟩
  rcases hap with ⟨h0, hw0, k2⟩ | ⟨_, ⟨rfl, ρ2, t2, old2, s2, L2, fl2, h2, k2, hkv, _, ho2, hs2, hd2, hf2⟩ | ⟨rfl, _, k2⟩ | ⟨_, hf, _⟩⟩
  · exact absurd (hw0.one hw) h0
  · refine .inr ⟨rfl, ?_⟩
    rw [h.its] at hkv
    have hD2 := hD1.kp k2 (fun x hx => hx)
    refine (same_any h2 hkv hD2 (Nat.le_trans hok.len (by omega)) (fun x hx => (hok.each x hx).2)).mono ?_
    rintro e w3 ⟨rfl, k3⟩
    have h3 := h2.kept k3
    refine ⟨rfl, h3.k, fun W vg kW hog hfg => ?_⟩
    have h4 := h3.turn (V' := fun b => vg.ownBlock = some b) kW (by simp) (fun x hx => .inr (hfg x hx)) (fun x hx => hog.lt hx)
    have hol : old2.length ≤ 1060 := by simpa using ho2
    refine (tre_settle h4 (by omega)).mono ?_
    rintro e w5 ⟨rfl, L5, fl5, h5, S5, k5, hS5⟩
    have hog5 := hog.kept k5 (fun g hg => hS5 g hg)
    have hvq : ValsQ w5 (rs.map goneQ) := fun x hx => by
      obtain ⟨y, _, rfl⟩ := List.mem_map.1 hx
      exact Reads.nil w5
    have hlen2 : (itsT t2).length ≤ 500 := by
      rw [← List.length_map (f := kv), hkv]
      exact hok.len
    refine ⟨rfl, (apply_all h5 (hog5.reads (CQ_wide _)) hvq hlen2 (by rw [List.length_map]; omega) (fun hw1 is his => ?_) (by simp) (by omega) hd2).mono ?_⟩
    · rw [hkv, gone_none hw] at his
      have : is = [] := List.map_eq_nil_iff.1 his
      subst this
      simp
    rintro e w6 ⟨er, rfl, hap⟩
    refine ⟨er, rfl, ?_⟩
    have hfu2 : s2.fuse < 0 := by rw [hf2 h.fuse]; exact h.fuse
    rcases hap with ⟨h0, hw0, k6⟩ | ⟨_, ⟨rfl, ρ6, t6, old6, s6, L6, fl6, h6, k6, hkv6, _, ho6, hs6, hd6, hf6⟩ | ⟨rfl, _, k6⟩ | ⟨_, hf, _⟩⟩
    · exact absurd (hw0.one (gone_wrong hw)) h0
    · refine .inr ⟨rfl, ?_⟩
      rw [hkv, gone_none hw] at hkv6
      have hk := tre_keys h6 (by rw [← List.length_map (f := kv), hkv6]; simp) [] []
      rw [hkv6] at hk
      refine hk.mono ?_
      rintro e w7 ⟨v7, rfl, ho7, k7, hf7⟩
      obtain ⟨a7, c7, e7, _, _⟩ := ho7.form
      have e8 : (CS (keysIn [] [] [])).length = 0 := rfl
      rw [e8] at e7
      refine ⟨a7, c7, by rw [e7], ?_⟩
      have h7 := (h6.kept k7).turn (V' := fun _ => False) (Kept.refl [] w7) (by simp) (fun x hx => hx.elim) (fun x hx => hx.elim)
      refine (tre_settle h7 (by simp at ho6; omega)).mono ?_
      rintro e w8 ⟨rfl, L8, fl8, h8, k8⟩
      exact ⟨rfl, p, q, ρ6, t6, s6, L8, fl8, h8, hkv6, by omega, hd6, by rw [hf6 hfu2]; exact hfu2, h.few⟩
    · exact .inl ⟨rfl, h5.k.trans k6 (by simp)⟩
    · omega
  · exact .inl ⟨rfl, h1.k.trans k2 (by simp)⟩
  · have := h.fuse
    omega
end
set_option maxRecDepth 100000 in
theorem gone_all (w : World) {a0 : Option Addr} {c0 m : Nat} {rs : List Cq} (hm : m < 256) (hr : RowQ w (.slice a0 rs.length c0) rs) (hv : ValsQ w rs) (hi : InQ rs) :
    Calls Tryz.prog 8 #[.slice a0 rs.length c0, .int .u8 (m : Int)] w fun e w' => e = .returned (.bool true) ∧ Kept [] w w' := by
  refine gone_walk (R := Kept [] w) (rs := rs) (I := GoneH (rs.length ≤ 500 ∧ WrongIs (rs.map Cq.c) 0 ∧ (rs.map wgt).sum ≤ 60000) w) hm (by have := hi.1; omega) (Hid.mk rfl) (Hid.mk hr) ((awake_any w).mono ?_) (Hid.mk fun tb j wr hI => ?_)
  · rintro e w1 ⟨rfl, k1⟩
    obtain ⟨W1, hW1⟩ : ∃ W1, w1.alloc (.cells #[.slice a0 rs.length c0] 40) = W1 := ⟨_, rfl⟩
    have kW : Kept [] w1 W1 := by rw [← hW1]; exact (Kept.refl [] w1).alloc _
    have hb : W1.heap[w1.heap.size]? = some (.cells #[.slice a0 rs.length c0] 40 (0, 0)) := by rw [← hW1]; exact heap_alloc_new w1 _
    have kk1 := k1.trans kW (by simp)
    rw [hW1]
    have hL : RowL W1 (.slice (some ⟨w1.heap.size, 0, none⟩) 1 1) [⟨rs, a0, c0⟩] := by
      refine ⟨⟨_, 1, rfl, by simp [CL], by unfold maxLen; omega, by simp, fun _ => ⟨w1.heap.size, 0, rfl, fun j r hj i x hx => ?_⟩⟩, fun l hl => ?_⟩
      · cases j with
        | zero =>
          simp [CL] at hj
          subst hj
          cases i with
          | zero => simp at hx; subst hx; simp [World.cell?, hb]
          | succ i => simp at hx
        | succ j => simp [CL] at hj
      · simp at hl
        subst hl
        exact hr.kept kk1 (by simp)
    have hin : ∀ l ∈ ([⟨rs, a0, c0⟩] : List Lq), l.rs.length ≤ 4398046511104 ∧ ∀ x ∈ l.rs, x.c.val.length ≤ 140737488355328 ∧ x.c.key.length ≤ 140737488355328 := fun l hl => by
      simp only [List.mem_cons, List.not_mem_nil, or_false] at hl
      subst hl
      exact hi
    refine ⟨rfl, (few_any (N := 1) (ls := [⟨rs, a0, c0⟩]) (Hid.mk rfl) (by omega) hL (Hid.mk hin)).mono ?_⟩
    rintro e w2 ⟨b, rfl, k2, hfew⟩
    refine ⟨b, rfl, ?_⟩
    have kk2 := kk1.trans k2 (by simp)
    cases b with
    | false => exact .inl ⟨rfl, (awake_any w2).mono fun e w3 ⟨he, k3⟩ => ⟨he, kk2.trans k3 (by simp)⟩⟩
    | true =>
      obtain ⟨_, f2, f3⟩ := hfew rfl
      simp [wgL] at f2 f3
      refine .inr ⟨rfl, (wrong_any (Hid.mk rfl) (hr.kept kk2 (by simp)) (by omega)).mono ?_⟩
      rintro e w3 ⟨er, rfl, hw, k3⟩
      refine ⟨er, rfl, ?_⟩
      have kk3 := kk2.trans k3 (by simp)
      by_cases he : er = 0
      case neg => exact .inl ⟨he, (awake_any w3).mono fun e w4 ⟨he, k4⟩ => ⟨he, kk3.trans k4 (by simp)⟩⟩
      subst he
      refine .inr ⟨rfl, ?_⟩
      unfold GoneF
      have e1 : ((2500 : Nat) : Int) = 2500 := by omega
      have e2 : ((2501 : Nat) : Int) = 2501 := by omega
      have hnew := psy_new (w0 := w) kk3 2501 1 2500 (by omega) (by omega) (by omega)
      rw [e1, e2] at hnew
      refine hnew.mono ?_
      rintro e w4 ⟨q, rfl, k4, h11⟩
      refine ⟨q, rfl, (h11 w4 (Kept.refl [] w4)).mono ?_⟩
      rintro e w5 ⟨p, fl, rfl, hfl, hsy, k5⟩
      refine ⟨p, rfl, (open_new hsy (by omega) (fun b hb => hb.elim) (fun b hb => hb.elim)).mono ?_⟩
      rintro e w6 ⟨tb, rfl, htb, hT, k6⟩
      exact ⟨tb, rfl, p, q, _, none, _, [], fl, hT, rfl, by simp, rfl, by simp, f2, hw, f3⟩
  · obtain ⟨p, q, ρ, t, s, L, fl, h⟩ := hI
    obtain ⟨f1, f2, f3⟩ := h.few
    exact ⟨f1, fun hlt => gone_step h hr hv (by omega) f2 f1 f3, fun _ => h.tre.k⟩
end Go.Proofs.YtgpbhlfdlkemjaaGreat
