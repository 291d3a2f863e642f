import Derived.Test.YtaefmhfkjpnbiaaGreatQ37
/-
  TreeLost, its calls in their order.
-/
namespace Go.Proofs.YtaefmhfkjpnbiaaGreat
open Go.RowKit
set_option linter.unusedVariables false

/-- The tree, its root and the free blocks are as they were. -/
def LostN (p tb db r : Nat) (a : Option Addr) (n c : Nat) (R : World → Prop) (w : World) : Prop :=
  Calls Tryz.prog 19 #[Pp tb, Pp db] w fun e w1 => e = .returned (.bool true) ∧ Calls Tryz.prog 25 #[Pp tb] w1 fun e w2 => e = .returned (.int .i64 (r : Int)) ∧ Calls Tryz.prog 16 #[Pp p] w2 fun e w3 => ∃ a' n' c', e = .returned (.slice a' n' c') ∧ Calls Tryz.prog 26 #[.slice a' n' c', .slice a n c] w3 fun e w4 => e = .returned (.bool true) ∧ R w4
/-- From the second Apply's answer on. -/
def LostE (q p tb db r : Nat) (a : Option Addr) (n c : Nat) (v1 : Value) (R : World → Prop) (w : World) (er : Int) : Prop :=
  (er = 0 ∧ Calls Tryz.prog 17 #[Pp db, v1] w fun e w1 => e = .returned (.tuple #[]) ∧ Calls Tryz.prog 19 #[Pp tb, Pp db] w1 fun e w2 => e = .returned (.bool true) ∧ R w2) ∨
  (er = 6 ∧ Calls Tryz.prog 31 #[Pp q] w fun e w1 => e = .returned (.bool false) ∧ Calls Tryz.prog 32 #[Pp q] w1 fun e w2 => e = .returned (.tuple #[]) ∧ LostN p tb db r a n c R w2) ∨
  (er = 9 ∧ Calls Tryz.prog 31 #[Pp q] w fun e w1 => e = .returned (.bool true) ∧ Calls Tryz.prog 32 #[Pp q] w1 fun e w2 => e = .returned (.tuple #[]) ∧ LostN p tb db r a n c R w2) ∨
  ((er = 1 ∨ er = 4) ∧ Calls Tryz.prog 31 #[Pp q] w fun e w1 => e = .returned (.bool false) ∧ Calls Tryz.prog 32 #[Pp q] w1 fun e w2 => e = .returned (.tuple #[]) ∧ Calls Tryz.prog 15 #[v1] w2 fun e w3 => e = .returned (.int .i64 er) ∧ LostN p tb db r a n c R w3)
/-- From Settle on. -/
def LostM (q p tb db : Nat) (v1 : Value) (f : Nat) (R : World → Prop) (w : World) : Prop :=
  Calls Tryz.prog 18 #[Pp tb] w fun e w1 => e = .returned (.tuple #[]) ∧ Calls Tryz.prog 25 #[Pp tb] w1 fun e w2 => ∃ r : Nat, e = .returned (.int .i64 (r : Int)) ∧ Calls Tryz.prog 16 #[Pp p] w2 fun e w3 => ∃ a n c, e = .returned (.slice a n c) ∧ Calls Tryz.prog 30 #[Pp q, .int .i64 (f : Int)] w3 fun e w4 => e = .returned (.tuple #[]) ∧ Calls Tryz.prog 14 #[Pp tb, v1] w4 fun e w5 => ∃ er : Int, e = .returned (.int .i64 er) ∧ LostE q p tb db r a n c v1 R w5 er
def LostA (q p tb db : Nat) (v0 v1 : Value) (f : Nat) (R : World → Prop) (w : World) (er : Int) : Prop :=
  (er = 0 ∧ Calls Tryz.prog 17 #[Pp db, v0] w fun e w1 => e = .returned (.tuple #[]) ∧ LostM q p tb db v1 f R w1) ∨ (er ≠ 0 ∧ LostM q p tb db v1 f R w)
def LostF (n2 : Nat) (v0 v1 : Value) (f : Nat) (R : World → Prop) (w : World) : Prop :=
  Calls Tryz.prog 12 #[.int .i64 2001] w fun e w3 => ∃ q, e = .returned (Pp q) ∧ Calls Tryz.prog 11 #[Pp q, .int .i64 1, .int .i64 (4 + (n2 : Int)), .slice none 0 0] w3 fun e w4 => ∃ p, e = .returned (.tuple #[Pp p, .int .i64 0]) ∧ Calls Tryz.prog 13 #[Pp p, .int .i64 0] w4 fun e w5 => ∃ tb, e = .returned (.tuple #[Pp tb, .int .i64 0]) ∧ Calls Tryz.prog 14 #[Pp tb, v0] (w5.alloc (.cells #[.slice none 0 0] 38)) fun e w6 => ∃ er : Int, e = .returned (.int .i64 er) ∧ LostA q p tb w5.heap.size v0 v1 f R w6 er
def LostB (n2 : Nat) (v0 v1 : Value) (f : Nat) (R : World → Prop) (w : World) (b : Bool) : Prop :=
  (b = false ∧ Calls Tryz.prog 9 #[] w fun e w1 => e = .returned (.bool true) ∧ R w1) ∨ (b = true ∧ LostF n2 v0 v1 f R w)
section
variable {w : World}
set_option maxRecDepth 100000 in
set_option maxHeartbeats 4000000 in
theorem lost_walk {R : World → Prop} {a0 a1 : Option Addr} {l0 c0 l1 c1 n2 n3 : Nat} (h2 : n2 < 256) (h3 : n3 < 256)
    (HC : Calls Tryz.prog 9 #[] w fun e w1 => e = .returned (.bool true) ∧ Calls Tryz.prog 10 #[.slice (some ⟨w1.heap.size, 0, none⟩) 2 2] (w1.alloc (.cells #[.slice a0 l0 c0, .slice a1 l1 c1] 40)) fun e w2 => ∃ b : Bool, e = .returned (.bool b) ∧ LostB n2 (.slice a0 l0 c0) (.slice a1 l1 c1) (n3 % 30) R w2 b) :
    Calls Tryz.prog 6 #[.slice a0 l0 c0, .slice a1 l1 c1, .int .u8 (n2 : Int), .int .u8 (n3 : Int)] w fun e w' => e = .returned (.bool true) ∧ R w' := by
  go_enter Tryz.func6, Tryz.ntmps6
  go_wp2_with fail
  refine HC.mono ?_
  rintro e w1 ⟨rfl, HC⟩
  go_wp2_with fail
  refine HC.mono ?_
  rintro e w2 ⟨b, rfl, ⟨rfl, HC⟩ | ⟨rfl, HC⟩⟩
  · go_wp2_with fail
    refine HC.mono ?_
    rintro e w3 ⟨rfl, hR⟩
    have HR := Hid.mk hR
    clear hR HC
    go_wp2
    go_ret
    exact ⟨rfl, HR.out⟩
  · unfold LostF at HC
    go_wp2_with fail
    refine HC.mono ?_
    rintro e w3 ⟨q, rfl, HC⟩
    go_wp2_with fail
    refine HC.mono ?_
    rintro e w4 ⟨p, rfl, HC⟩
    go_wp2_with fail
    refine HC.mono ?_
    rintro e w5 ⟨tb, rfl, HC⟩
    go_wp2_with fail
    refine HC.mono ?_
    rintro e w6 ⟨er, rfl, ⟨rfl, HC⟩ | ⟨he, HC⟩⟩
    case' inl =>
      go_wp2_with fail
      refine HC.mono ?_
      rintro e w7 ⟨rfl, HC⟩
    all_goals
      unfold LostM at HC
      go_wp2_with fail
      refine HC.mono ?_
      rintro e w8 ⟨rfl, HC⟩
      go_wp2_with fail
      refine HC.mono ?_
      rintro e w9 ⟨r, rfl, HC⟩
      go_wp2_with fail
      refine HC.mono ?_
      rintro e w10 ⟨a, n, c, rfl, HC⟩
      go_wp2_with fail
      refine HC.mono ?_
      rintro e w11 ⟨rfl, HC⟩
      go_wp2_with fail
      refine HC.mono ?_
      rintro e w12 ⟨er2, rfl, ⟨rfl, HC⟩ | ⟨rfl, HC⟩ | ⟨rfl, HC⟩ | ⟨rfl | rfl, HC⟩⟩
      · go_wp2_with fail
        refine HC.mono ?_
        rintro e w13 ⟨rfl, HC⟩
        go_wp2_with fail
        refine HC.mono ?_
        rintro e w14 ⟨rfl, hR⟩
        have HR := Hid.mk hR
        clear hR HC
        go_wp2
        go_ret
        exact ⟨rfl, HR.out⟩
      case' inr.inr.inr.inl =>
        go_wp2_with fail
        refine HC.mono ?_
        rintro e w13 ⟨rfl, HC⟩
        go_wp2_with fail
        refine HC.mono ?_
        rintro e w14 ⟨rfl, HC⟩
        go_wp2_with fail
        refine HC.mono ?_
        rintro e w15 ⟨rfl, HC⟩
      case' inr.inr.inr.inr =>
        go_wp2_with fail
        refine HC.mono ?_
        rintro e w13 ⟨rfl, HC⟩
        go_wp2_with fail
        refine HC.mono ?_
        rintro e w14 ⟨rfl, HC⟩
        go_wp2_with fail
        refine HC.mono ?_
        rintro e w15 ⟨rfl, HC⟩
      case' inr.inl =>
        go_wp2_with fail
        refine HC.mono ?_
        rintro e w13 ⟨rfl, HC⟩
        go_wp2_with fail
        refine HC.mono ?_
        rintro e w14 ⟨rfl, HC⟩
      case' inr.inr.inl =>
        go_wp2_with fail
        refine HC.mono ?_
        rintro e w13 ⟨rfl, HC⟩
        go_wp2_with fail
        refine HC.mono ?_
        rintro e w14 ⟨rfl, HC⟩
      all_goals
        unfold LostN at HC
        go_wp2_with fail
        refine HC.mono ?_
        rintro e w16 ⟨rfl, HC⟩
        go_wp2_with fail
        refine HC.mono ?_
        rintro e w17 ⟨rfl, HC⟩
        go_wp2_with fail
        refine HC.mono ?_
        rintro e w18 ⟨a', n', c', rfl, HC⟩
        go_wp2_with fail
        refine HC.mono ?_
        rintro e w19 ⟨rfl, hR⟩
        have HR := Hid.mk hR
        clear hR HC
        go_wp2
        go_ret
        exact ⟨rfl, HR.out⟩
end
end Go.Proofs.YtaefmhfkjpnbiaaGreat
/-
  What a table weighs; a Tree's disk and free blocks; SameInts.
-/
namespace Go.Proofs.YtaefmhfkjpnbiaaGreat
open Go.RowKit
set_option linter.unusedVariables false

theorem sum_tset (f : KV → Nat) (T : List KV) (c : Cg) : ((tset T c).map f).sum ≤ (T.map f).sum + f (c.key, c.val) := by
  unfold tset
  have h : ∀ l : List KV, ((l.filter (fun x => decide (x.1 < c.key))).map f).sum + ((l.filter (fun x => decide (c.key < x.1))).map f).sum ≤ (l.map f).sum := by
    intro l
    induction l with
    | nil => simp
    | cons a l ih =>
      by_cases h1 : a.1 < c.key
      · have h2 := klt_asymm h1
        simp only [List.filter_cons, h1, h2, decide_true, decide_false, if_true, List.map_cons, List.sum_cons]
        simp
        omega
      · by_cases h2 : c.key < a.1
        · simp only [List.filter_cons, h1, h2, decide_true, decide_false, if_true, List.map_cons, List.sum_cons]
          simp
          omega
        · simp only [List.filter_cons, h1, h2, decide_false, List.map_cons, List.sum_cons]
          simp
          omega
  have h1 := h T
  have h2 : ((if c.gone then [] else [(c.key, c.val)] : List KV).map f).sum ≤ f (c.key, c.val) := by split <;> simp
  rw [List.map_append, List.map_append, List.sum_append, List.sum_append]
  omega
theorem sum_tapp (f : KV → Nat) : ∀ (cs : List Cg) (T : List KV), ((tapp T cs).map f).sum ≤ (T.map f).sum + (cs.map fun c => f (c.key, c.val)).sum
  | [], T => by simp [tapp]
  | c :: cs, T => by
    have h1 := sum_tapp f cs (tset T c)
    have h2 := sum_tset f T c
    rw [tapp_cons, List.map_cons, List.sum_cons]
    omega
/-- A table of at most n keys, whose values have at most B bytes. -/
structure TOk (T : List KV) (n B : Nat) : Prop where
  up : UpK T
  each : ∀ x ∈ T, x.1.length ≤ 64 ∧ x.2.length ≤ 20000
  len : T.length ≤ n
  sum : (T.map fun x => x.2.length).sum ≤ B
theorem TOk.nil (n B : Nat) : TOk [] n B := ⟨List.Pairwise.nil, by simp, by simp, by simp⟩
theorem each_tset {P : KV → Prop} {T : List KV} {c : Cg} (h : ∀ x ∈ T, P x) (hc : P (c.key, c.val)) : ∀ x ∈ tset T c, P x := fun x hx => by
  rcases mem_tset.1 hx with ⟨_, rfl⟩ | ⟨h1, _⟩
  · exact hc
  · exact h x h1
theorem each_tapp {P : KV → Prop} : ∀ (cs : List Cg) {T : List KV}, (∀ x ∈ T, P x) → (∀ c ∈ cs, P (c.key, c.val)) → ∀ x ∈ tapp T cs, P x
  | [], _, h, _ => h
  | c :: cs, _, h, hc => each_tapp cs (each_tset h (hc c (by simp))) (fun d hd => hc d (List.mem_cons_of_mem _ hd))
theorem TOk.app {T : List KV} {n B : Nat} (h : TOk T n B) {cs : List Cg} (hw : WrongIs cs 0) : TOk (tapp T cs) (n + cs.length) (B + (cs.map fun c => c.val.length).sum) := by
  obtain ⟨_, hz⟩ := hw.zero
  refine ⟨up_tapp _ h.up, each_tapp cs h.each (fun c hc => ⟨(hz c hc).2.1, (hz c hc).2.2⟩), ?_, ?_⟩
  · have h1 := tapp_len cs T
    have h2 := h.len
    omega
  · have h1 := sum_tapp (fun x => x.2.length) cs T
    have h2 := h.sum
    simp only at h1
    omega
theorem TOk.more {T : List KV} {n B n' B' : Nat} (h : TOk T n B) (hn : n ≤ n') (hB : B ≤ B') : TOk T n' B' := ⟨h.up, h.each, Nat.le_trans h.len hn, Nat.le_trans h.sum hB⟩
theorem cstK_le (x : KV) (h : x.1.length ≤ 64) : 119 * cstK x ≤ x.2.length := by
  unfold cstK
  split <;> omega
theorem TOk.cost {T : List KV} {n B : Nat} (h : TOk T n B) (hB : B ≤ 100000) : (T.map cstK).sum ≤ 900 := by
  have h1 : ∀ l : List KV, (∀ x ∈ l, x.1.length ≤ 64) → 119 * (l.map cstK).sum ≤ (l.map fun x => x.2.length).sum := by
    intro l
    induction l with
    | nil => simp
    | cons a l ih =>
      intro hl
      have h1 := ih (fun x hx => hl x (List.mem_cons_of_mem _ hx))
      have h2 := cstK_le a (hl a (by simp))
      simp only [List.map_cons, List.sum_cons]
      omega
  have h2 := h1 T (fun x hx => (h.each x hx).1)
  have h3 := h.sum
  omega
/-- The values' bytes, by the weights. -/
theorem vals_wgt {rs : List Cq} (h : ∀ x ∈ rs, x.c.val.length ≤ 20000) : ((rs.map Cq.c).map fun c => c.val.length).sum ≤ (rs.map wgt).sum := by
  rw [List.map_map]
  induction rs with
  | nil => simp
  | cons x rs ih =>
    have h1 := ih (fun y hy => h y (List.mem_cons_of_mem _ hy))
    have h2 := h x (by simp)
    have h3 : x.c.val.length ≤ wgt x := by unfold wgt; omega
    simp only [List.map_cons, List.sum_cons]
    have h4 : ((fun c : Cg => c.val.length) ∘ Cq.c) x = x.c.val.length := rfl
    omega
theorem WrongIs.vals {rs : List Cq} (h : WrongIs (rs.map Cq.c) 0) : ((rs.map Cq.c).map fun c => c.val.length).sum ≤ (rs.map wgt).sum := vals_wgt fun x hx => (h.zero.2 x.c (List.mem_map_of_mem hx)).2.2
theorem WrongIs.lit {l : List Cg} {er : Int} (h : WrongIs l er) (h0 : er ≠ 0) : er = 1 ∨ er = 4 := by
  rcases h with ⟨_, h⟩ | ⟨_, _, h⟩ | ⟨_, _, h⟩
  · exact .inl h
  · exact .inr h
  · exact absurd h h0
theorem perm_tail {a b c : List Nat} (h : (a ++ b).Perm (a ++ c)) : b.Perm c := (List.perm_append_left_iff a).1 h
theorem rises_one {a b l m : List Nat} (h : Rises a l) (h' : Rises b m) (hp : l.Perm m) : a = b :=
  List.Perm.eq_of_pairwise (le := fun x y => x ≤ y) (fun x y _ _ h1 h2 => Nat.le_antisymm h1 h2) (h.2.imp (fun h => Nat.le_of_lt h)) (h'.2.imp (fun h => Nat.le_of_lt h)) ((h.1.trans hp).trans h'.1.symm)
section
variable {w : World}
set_option maxRecDepth 100000 in
set_option maxHeartbeats 1000000 in
theorem sameInts_any {v v' : Value} {l : List Nat} (hr : ReadsI w v l) (hr' : ReadsI w v' l) (hl : l.length ≤ 1000000) : Calls Tryz.prog 26 #[v, v'] w fun e w' => e = .returned (.bool true) ∧ Kept [] w w' := by
  obtain ⟨a, c, rfl, h1, h2⟩ := hr.form
  obtain ⟨a', c', rfl, h1', h2'⟩ := hr'.form
  have HR := Hid.mk hr
  have HR' := Hid.mk hr'
  obtain ⟨N, hN⟩ : ∃ N, Hid (l.length = N) := ⟨_, rfl⟩
  rw [hN.out] at hl HR HR' h1 h1'
  clear hr hr'
  rw [hN.out]
  go_enter Tryz.func26, Tryz.ntmps26
  go_wp2_with fail
  go_loopw [13] (fun i wr => ∃ j : Nat, i = .int .i64 (j : Int) ∧ j ≤ N ∧ Kept [] w wr) (fun i _ => N - (intOf i).toNat)
  case atStart => exact ⟨0, rfl, by omega, Kept.refl [] w⟩
  case round =>
    obtain ⟨j, rfl, hj, kk⟩ := hrel
    by_cases hlt : j < N
    · obtain ⟨x, hx⟩ : ∃ x, l[j]? = some x := ⟨_, List.getElem?_eq_getElem (by have := hN.out; omega)⟩
      obtain ⟨b, o, d, e, hcell⟩ := (HR.out.kept kk (by simp)).at j x hx
      injection e with e eN e2
      subst e e2
      clear eN
      obtain ⟨b', o', d', e', hcell'⟩ := (HR'.out.kept kk (by simp)).at j x hx
      injection e' with e' eN' e2'
      subst e' e2'
      clear eN'
      have HK := Hid.mk kk
      clear hx kk HR HR'
      have hjI : (j : Int) < (N : Int) := by omega
      go_wp2_with fail
      go_quiet (fail)
      go_wp2
      go_roundw
      case rel => exact ⟨j + 1, by go_num, by omega, HK.out.drewN _⟩
      case measure => simp [intOf]; omega
    · obtain rfl : j = N := by omega
      go_wp2
      go_ret
      exact ⟨rfl, kk⟩
end
section
variable {w0 w w' : World} {tb p q : Nat} {V V' : Nat → Prop} {ρ : Rho} {t : AT} {old : List Nat} {s s' : St} {fr ct : Nat} {L : List Ent} {fl : List Nat}
theorem IsTree.disk {T : Nat → Prop} {vo : Value} (h : IsTree w0 w tb p q T V ρ t vo old s fr ct L fl) (hs : SyP w0 w' q p s' fr ct L fl (fun b => T b ∨ b = tb ∨ vo.ownBlock = some b ∨ V b)) (k : KP (fun b => T b ∨ b = tb ∨ vo.ownBlock = some b ∨ V b) w w') : IsTree w0 w' tb p q T V ρ t vo old s' fr ct L fl := by
  obtain ⟨S, k, hS⟩ := k
  have hz := k.size
  exact ⟨k.keeps h.box (hS tb (.inr (.inl rfl))), h.own.kept k (fun g hg => hS g (.inr (.inr (.inl hg)))), h.tree.kept k (fun x hx hT => hS x (.inl hT) hx), h.up, h.sz, hs, fun b hb => Nat.lt_of_lt_of_le (h.lt b hb) hz, h.ge, h.tt, h.tv, fun b hb => h.blank b (by omega), h.ok, h.olds, h.root, h.fr1⟩
theorem KP.less {X Y : Nat → Prop} (k : KP X w w') (h : ∀ x, Y x → X x) : KP Y w w' := by
  obtain ⟨S, k, hS⟩ := k
  exact ⟨S, k, fun x hx => hS x (h x hx)⟩
theorem tre_free (h : Tre w0 w tb p q V ρ t old s fr ct L fl) : Calls Tryz.prog 16 #[Pp p] w fun e w' => ∃ v ns, e = .returned v ∧ OwnsI w' v ns ∧ Rises ns fl ∧ Kept [] w w' ∧ Fresh w v := by
  obtain ⟨T, vo, h⟩ := h
  exact psy_free h.sy
theorem tre_fuse (h : Tre w0 w tb p q V ρ t old s fr ct L fl) (f : Nat) (hf : f ≤ 1000) : Calls Tryz.prog 30 #[Pp q, .int .i64 (f : Int)] w fun e w' => e = .returned (.tuple #[]) ∧ Tre w0 w' tb p q V ρ t old { s with fuse := (f : Int) } fr ct L fl ∧ KP V w w' := by
  obtain ⟨T, vo, h⟩ := h
  refine (psy_fuse h.sy f hf).mono ?_
  rintro e w' ⟨rfl, hs, k⟩
  exact ⟨rfl, ⟨T, vo, h.disk hs k⟩, k.less fun x hx => .inr (.inr (.inr hx))⟩
theorem tre_restart (h : Tre w0 w tb p q V ρ t old s fr ct L fl) : Calls Tryz.prog 32 #[Pp q] w fun e w' => e = .returned (.tuple #[]) ∧ Tre w0 w' tb p q V ρ t old { s with fuse := -1, down := false } fr ct L fl ∧ KP V w w' := by
  obtain ⟨T, vo, h⟩ := h
  refine (psy_restart h.sy).mono ?_
  rintro e w' ⟨rfl, hs, k⟩
  exact ⟨rfl, ⟨T, vo, h.disk hs k⟩, k.less fun x hx => .inr (.inr (.inr hx))⟩
theorem tre_down (h : Tre w0 w tb p q V ρ t old s fr ct L fl) : Calls Tryz.prog 31 #[Pp q] w fun e w' => e = .returned (.bool s.down) ∧ w = w' := by
  obtain ⟨T, vo, h⟩ := h
  obtain ⟨F, G, T', hD, _⟩ := h.sy
  exact down_any hD
theorem Tre.okp (h : Tre w0 w tb p q V ρ t old s fr ct L fl) : Okp s fr ct L fl := by
  obtain ⟨T, vo, h⟩ := h
  exact h.sy.ok
/-- The blocks of a table that lie in memory. -/
def TV (db : Nat) (v : Value) (T : List KV) (b : Nat) : Prop := b = db ∨ (T ≠ [] ∧ v.ownBlock = some b)
theorem TV.lt {db : Nat} {v : Value} {T : List KV} (h : IsTab w db v T) {g : Nat} (hx : TV db v T g) : g < w.heap.size := by
  rcases hx with rfl | ⟨hT, hg⟩
  · exact (Array.getElem?_eq_some_iff.1 h.box).1
  · have he : CT T ≠ [] := fun e => hT (by simpa [CT] using e)
    obtain ⟨a, cap, h1, h2, h3, h4, h5⟩ := h.row
    obtain ⟨b, o, rfl, hc⟩ := h5 he
    obtain ⟨r, rs, hr⟩ := List.exists_cons_of_ne_nil he
    have hw := CT_wide T r (by rw [hr]; simp)
    obtain ⟨x, xs, rfl⟩ : ∃ x xs, r = x :: xs := by
      cases r with
      | nil => simp at hw
      | cons x xs => exact ⟨x, xs, rfl⟩
    have hcell := hc 0 _ (by rw [hr]; rfl) 0 x rfl
    have hb : g = b := by
      rw [h1] at hg
      simp [Value.ownBlock] at hg
      omega
    subst hb
    unfold World.cell? at hcell
    rcases Nat.lt_or_ge g w.heap.size with hlt | hge
    · exact hlt
    · rw [Array.getElem?_eq_none hge] at hcell
      simp at hcell
theorem IsTab.keptV {db : Nat} {v : Value} {T : List KV} (h : IsTab w db v T) {S : List Nat} (k : Kept S w w') (hS : ∀ x, TV db v T x → x ∉ S) : IsTab w' db v T := by
  refine ⟨k.keeps h.box (hS db (.inl rfl)), ?_, h.apart⟩
  by_cases he : T = []
  · obtain ⟨a, cap, h1, h2, h3, h4, _⟩ := h.row
    exact ⟨a, cap, h1, h2, h3, h4, fun hne => absurd (by rw [he]; rfl) hne⟩
  · exact h.row.kept k fun g hg => hS g (.inr ⟨he, hg⟩)
theorem IsTab.kp {db : Nat} {v : Value} {T : List KV} (h : IsTab w db v T) (k : KP V w w') (hV : ∀ x, TV db v T x → V x) : IsTab w' db v T := by
  obtain ⟨S, k, hS⟩ := k
  exact h.keptV k fun x hx => hS x (hV x hx)
end
end Go.Proofs.YtaefmhfkjpnbiaaGreat
/-
  TreeLost, whole.
-/
namespace Go.Proofs.YtaefmhfkjpnbiaaGreat
open Go.RowKit
set_option linter.unusedVariables false

section
variable {w0 w : World} {tb p q : Nat} {V : Nat → Prop} {ρ : Rho} {t : AT} {old : List Nat} {s : St} {fr ct : Nat} {L : List Ent} {fl : List Nat}
theorem lost_n {db r : Nat} {vT : Value} {T : List KV} {n0 B0 : Nat} (h : Tre w0 w tb p q V ρ t old s fr ct L fl) (hT : (itsT t).map kv = T) (hD : IsTab w db vT T) (hok : TOk T n0 B0) (hn : n0 ≤ 100000) {a : Option Addr} {n c : Nat} {ns fl0 : List Nat} (ho : OwnsI w (.slice a n c) ns) (hri : Rises ns fl0) (hp : fl.Perm fl0) (hr : rootN ρ t = r) : LostN p tb db r a n c (Kept [] w0) w := by
  subst hr
  refine (same_any h hT hD (Nat.le_trans hok.len hn) (fun x hx => (hok.each x hx).2)).mono ?_
  rintro e w1 ⟨rfl, k1⟩
  have h1 := h.kept k1
  refine ⟨rfl, (tre_root h1).mono ?_⟩
  rintro e w2 ⟨rfl, rfl⟩
  refine ⟨rfl, (tre_free h1).mono ?_⟩
  rintro e w3 ⟨v', ns', rfl, ho', hri', k3, hf3⟩
  obtain rfl : ns' = ns := rises_one hri' hri hp
  obtain ⟨a', c', rfl, _, _⟩ := ho'.form
  refine ⟨a', _, c', rfl, ?_⟩
  have h3 := h1.kept k3
  have hl : ns'.length ≤ 1000000 := by
    have e1 := hri'.1.length_eq
    have e2 := h3.okp.length
    have e3 := h3.okp.area
    have e4 := h3.okp.nb
    omega
  refine (sameInts_any ho'.reads ((ho.kept k1 (by simp)).kept k3 (by simp)).reads hl).mono ?_
  rintro e w4 ⟨rfl, k4⟩
  exact ⟨rfl, h3.k.trans k4 (by simp)⟩
theorem lost_m {db f : Nat} {vT : Value} {T : List KV} {n0 B0 : Nat} {a1 : Option Addr} {c1 : Nat} {rs1 : List Cq} (hf : f ≤ 1000) (h : Tre w0 w tb p q (TV db vT T) ρ t old s fr ct L fl) (hT : (itsT t).map kv = T) (hD : IsTab w db vT T) (hok : TOk T n0 B0) (hr1 : RowQ w0 (.slice a1 rs1.length c1) rs1) (hv1 : ValsQ w0 rs1) (hn : n0 + rs1.length ≤ 500) (hB : B0 + (rs1.map wgt).sum ≤ 60000) (hdb : w0.heap.size ≤ db) (hold : old.length ≤ 90000) (hws : s.ws.length ≤ 88000) (hd : s.down = false) : LostM q p tb db (.slice a1 rs1.length c1) f (Kept [] w0) w := by
  refine (tre_settle h (by omega)).mono ?_
  rintro e w1 ⟨rfl, L1, fl1, h1, k1⟩
  have hD1 := hD.kp k1 (fun x hx => hx)
  refine ⟨rfl, (tre_root h1).mono ?_⟩
  rintro e w2 ⟨rfl, rfl⟩
  refine ⟨_, rfl, (tre_free h1).mono ?_⟩
  rintro e w3 ⟨vf, ns, rfl, ho, hri, k3, hfr⟩
  obtain ⟨a, c, rfl, hc1, hc2⟩ := ho.form
  refine ⟨a, _, c, rfl, ?_⟩
  have hD3 := hD1.keptV k3 (by simp)
  have h3 := h1.turn (V' := fun b => TV db vT T b ∨ (Value.slice a ns.length c).ownBlock = some b) k3 (by simp) (fun x hx => hx.imp id (fun h => hfr x h)) (fun x hx => by
    rcases hx with hx | hx
    · exact TV.lt hD3 hx
    · exact ho.lt hx)
  refine (tre_fuse h3 f hf).mono ?_
  rintro e w4 ⟨rfl, h4, k4⟩
  have hD4 := hD3.kp k4 (fun x hx => .inl hx)
  have ho4 : OwnsI w4 (.slice a ns.length c) ns := by
    obtain ⟨S, k, hS⟩ := k4
    exact ho.kept k (fun g hg => hS g (.inr hg))
  have hlen : (itsT t).length ≤ n0 := by
    have := hok.len
    rw [← hT, List.length_map] at this
    exact this
  refine ⟨rfl, (apply_any h4 (hr1.kept h4.k (by simp)) (hv1.kept h4.k (by simp)) (by omega) (fun hw is his => ?_) (by simp) hws hd).mono ?_⟩
  · rw [cst_kv, his, hT]
    have := hw.vals
    exact (hok.app hw).cost (by omega)
  rintro e w5 ⟨er, rfl, hap⟩
  refine ⟨er, rfl, ?_⟩
  have hn1 : n0 ≤ 100000 := by omega
  rcases hap with ⟨h0, hw, k5⟩ | ⟨hw, ⟨rfl, ρ5, t5, old5, s5, L5, fl5, h5, k5, hkv, _⟩ | ⟨rfl, _, k5⟩ | ⟨rfl, _, ρ5, s5, fl5, h5, hroot, k5, hdn⟩⟩
  · refine .inr (.inr (.inr ⟨hw.lit h0, ?_⟩))
    have h5 := h4.kept k5
    refine (tre_down h5).mono ?_
    rintro e w6 ⟨rfl, rfl⟩
    refine ⟨congrArg (fun b => Ending.returned (Value.bool b)) hd, (tre_restart h5).mono ?_⟩
    rintro e w7 ⟨rfl, h7, k7⟩
    refine ⟨rfl, (wrong_any (Hid.mk rfl) (hr1.kept h7.k (by simp)) (by omega)).mono ?_⟩
    rintro e w8 ⟨er', rfl, hw', k8⟩
    obtain rfl := hw'.one hw
    have hD7 := ((hD4.keptV k5 (by simp)).kp k7 (fun x hx => .inl hx)).keptV k8 (by simp)
    have ho7 : OwnsI w8 (.slice a ns.length c) ns := by
      obtain ⟨S, k, hS⟩ := k7
      exact ((ho4.kept k5 (by simp)).kept k (fun g hg => hS g (.inr hg))).kept k8 (by simp)
    exact ⟨rfl, lost_n (h7.kept k8) hT hD7 hok hn1 ho7 hri (List.Perm.refl _) rfl⟩
  · refine .inl ⟨rfl, ?_⟩
    have hD5 := hD4.kp k5 (fun x hx => .inl hx)
    have HK : ∀ W, Kept [db] w5 W → Kept [] w0 W := fun W kW => h5.k.trans kW (fun x hx => .inr (by simp at hx; rw [hx]; exact hdb))
    have hok5 := hok.app hw
    refine (tabApply_any hD5 hok.up (Hid.mk rfl) (Hid.mk fun W kW => hr1.kept (HK W kW) (by simp)) (Hid.mk fun W kW => hv1.kept (HK W kW) (by simp)) (Hid.mk (by have := hok.len; omega)) (by omega)).mono ?_
    rintro e w6 ⟨rfl, v6, hD6, k6, hN6⟩
    have h6 := h5.turn (V' := fun _ => False) k6 (fun x hx => by simp at hx; rw [hx]; exact .inl (.inl rfl)) (fun x hx => hx.elim) (fun x hx => hx.elim)
    rw [hT] at hkv
    have hle := hok5.len
    rw [List.length_map] at hle
    refine ⟨rfl, (same_any h6 hkv hD6 (by omega) (fun x hx => (hok5.each x hx).2)).mono ?_⟩
    rintro e w7 ⟨rfl, k7⟩
    exact ⟨rfl, h6.k.trans k7 (by simp)⟩
  · refine .inr (.inl ⟨rfl, ?_⟩)
    have h5 := h4.kept k5
    refine (tre_down h5).mono ?_
    rintro e w6 ⟨rfl, rfl⟩
    refine ⟨congrArg (fun b => Ending.returned (Value.bool b)) hd, (tre_restart h5).mono ?_⟩
    rintro e w7 ⟨rfl, h7, k7⟩
    have hD7 := (hD4.keptV k5 (by simp)).kp k7 (fun x hx => .inl hx)
    have ho7 : OwnsI w7 (.slice a ns.length c) ns := by
      obtain ⟨S, k, hS⟩ := k7
      exact (ho4.kept k5 (by simp)).kept k (fun g hg => hS g (.inr hg))
    exact ⟨rfl, lost_n h7 hT hD7 hok hn1 ho7 hri (List.Perm.refl _) rfl⟩
  · refine .inr (.inr (.inl ⟨rfl, ?_⟩))
    refine (tre_down h5).mono ?_
    rintro e w6 ⟨rfl, rfl⟩
    refine ⟨congrArg (fun b => Ending.returned (Value.bool b)) hdn, (tre_restart h5).mono ?_⟩
    rintro e w7 ⟨rfl, h7, k7⟩
    have hD7 := (hD4.kp k5 (fun x hx => .inl hx)).kp k7 (fun x hx => .inl hx)
    have ho7 : OwnsI w7 (.slice a ns.length c) ns := by
      obtain ⟨S, k, hS⟩ := k5
      obtain ⟨S', k', hS'⟩ := k7
      exact (ho4.kept k (fun g hg => hS g (.inr hg))).kept k' (fun g hg => hS' g (.inr hg))
    exact ⟨rfl, lost_n h7 hT hD7 hok hn1 ho7 hri (perm_tail (h5.okp.perm.trans h4.okp.perm.symm)) hroot⟩
end
section
variable {w : World}
set_option maxRecDepth 100000 in
theorem lost_all (w : World) {a0 a1 : Option Addr} {c0 c1 : Nat} {rs0 rs1 : List Cq} {n2 n3 : Nat} (h2 : n2 < 256) (h3 : n3 < 256) (hr0 : RowQ w (.slice a0 rs0.length c0) rs0) (hv0 : ValsQ w rs0) (hi0 : InQ rs0) (hr1 : RowQ w (.slice a1 rs1.length c1) rs1) (hv1 : ValsQ w rs1) (hi1 : InQ rs1) :
    Calls Tryz.prog 6 #[.slice a0 rs0.length c0, .slice a1 rs1.length c1, .int .u8 (n2 : Int), .int .u8 (n3 : Int)] w fun e w' => e = .returned (.bool true) ∧ Kept [] w w' := by
  refine lost_walk h2 h3 ((awake_any w).mono ?_)
  rintro e w1 ⟨rfl, k1⟩
  obtain ⟨W1, hW1⟩ : ∃ W1, w1.alloc (.cells #[.slice a0 rs0.length c0, .slice a1 rs1.length c1] 40) = W1 := ⟨_, rfl⟩
  have kW : Kept [] w1 W1 := by rw [← hW1]; exact (Kept.refl [] w1).alloc _
  have hb : W1.heap[w1.heap.size]? = some (.cells #[.slice a0 rs0.length c0, .slice a1 rs1.length c1] 40 (0, 0)) := by rw [← hW1]; exact heap_alloc_new w1 _
  have kk1 := k1.trans kW (by simp)
  rw [hW1]
  have hL : RowL W1 (.slice (some ⟨w1.heap.size, 0, none⟩) 2 2) [⟨rs0, a0, c0⟩, ⟨rs1, a1, c1⟩] := by
    refine ⟨⟨_, 2, rfl, by simp [CL], by unfold maxLen; omega, by simp, fun _ => ⟨w1.heap.size, 0, rfl, fun j r hj i x hx => ?_⟩⟩, fun l hl => ?_⟩
    · have hj2 : j < 2 := by simpa [CL] using (List.getElem?_eq_some_iff.1 hj).1
      rcases (by omega : j = 0 ∨ j = 1) with rfl | rfl
      · simp [CL] at hj
        subst hj
        cases i with
        | zero => simp at hx; subst hx; simp [World.cell?, hb]
        | succ i => simp at hx
      · simp [CL] at hj
        subst hj
        cases i with
        | zero => simp at hx; subst hx; simp [World.cell?, hb]
        | succ i => simp at hx
    · simp at hl
      rcases hl with rfl | rfl
      · exact hr0.kept kk1 (by simp)
      · exact hr1.kept kk1 (by simp)
  have hin : ∀ l ∈ ([⟨rs0, a0, c0⟩, ⟨rs1, a1, c1⟩] : List Lq), l.rs.length ≤ 4398046511104 ∧ ∀ x ∈ l.rs, x.c.val.length ≤ 140737488355328 ∧ x.c.key.length ≤ 140737488355328 := fun l hl => by
    simp only [List.mem_cons, List.not_mem_nil, or_false] at hl
    rcases hl with rfl | rfl
    · exact hi0
    · exact hi1
  refine ⟨rfl, (few_any (N := 2) (ls := [⟨rs0, a0, c0⟩, ⟨rs1, a1, c1⟩]) (Hid.mk rfl) (by omega) hL (Hid.mk hin)).mono ?_⟩
  rintro e w2 ⟨b, rfl, k2, hfew⟩
  refine ⟨b, rfl, ?_⟩
  have kk2 := kk1.trans k2 (by simp)
  cases b with
  | false =>
    refine .inl ⟨rfl, (awake_any w2).mono ?_⟩
    rintro e w3 ⟨rfl, k3⟩
    exact ⟨rfl, kk2.trans k3 (by simp)⟩
  | true =>
    obtain ⟨_, f2, f3⟩ := hfew rfl
    simp [wgL] at f2 f3
    refine .inr ⟨rfl, ?_⟩
    unfold LostF
    have e1 : ((4 + n2 : Nat) : Int) = 4 + (n2 : Int) := by omega
    have e2 : ((2001 : Nat) : Int) = 2001 := by omega
    have hnew := psy_new (w0 := w) kk2 2001 1 (4 + n2) (by omega) (by omega) (by omega)
    rw [e1, e2] at hnew
    refine hnew.mono ?_
    rintro e w3 ⟨q, rfl, k3, h11⟩
    refine ⟨q, rfl, (h11 w3 (Kept.refl [] w3)).mono ?_⟩
    rintro e w4 ⟨p, fl, rfl, hfl, hsy, k4⟩
    refine ⟨p, rfl, (open_new hsy (by omega) (fun b hb => hb.elim) (fun b hb => hb.elim)).mono ?_⟩
    rintro e w5 ⟨tb, rfl, htb, hT, k5⟩
    refine ⟨tb, rfl, ?_⟩
    obtain ⟨W5, hW5⟩ : ∃ W5, w5.alloc (.cells #[.slice none 0 0] 38) = W5 := ⟨_, rfl⟩
    have kW5 : Kept [] w5 W5 := by rw [← hW5]; exact (Kept.refl [] w5).alloc _
    have hb5 : W5.heap[w5.heap.size]? = some (.cells #[.slice none 0 0] 38 (0, 0)) := by rw [← hW5]; exact heap_alloc_new w5 _
    have hdb : w.heap.size ≤ w5.heap.size := hT.k.size
    rw [hW5]
    have hD5 : IsTab W5 w5.heap.size (.slice none 0 0) [] := ⟨hb5, ReadsR.nil 2 W5, by simp [Value.ownBlock]⟩
    have hT5 := hT.turn (V' := TV w5.heap.size (.slice none 0 0) []) kW5 (by simp) (fun x hx => by
      rcases hx with rfl | ⟨hx, _⟩
      · exact .inr (Nat.le_refl _)
      · exact absurd rfl hx) (fun x hx => TV.lt hD5 hx)
    refine (apply_any hT5 (hr0.kept hT5.k (by simp)) (hv0.kept hT5.k (by simp)) (by simp [itsT]; omega) (fun hw is his => ?_) (by simp) (by simp) rfl).mono ?_
    · rw [cst_kv, his]
      have := hw.vals
      exact ((TOk.nil 0 0).app hw).cost (by omega)
    rintro e w6 ⟨er, rfl, hap⟩
    refine ⟨er, rfl, ?_⟩
    have hf30 : n3 % 30 ≤ 1000 := by omega
    rcases hap with ⟨h0, hw, k6⟩ | ⟨hw, ⟨rfl, ρ6, t6, old6, s6, L6, fl6, h6, k6, hkv, _, ho6, hs6, hd6, _⟩ | ⟨rfl, _, k6⟩ | ⟨rfl, hfu, _⟩⟩
    · exact .inr ⟨h0, lost_m hf30 (hT5.kept k6) rfl (hD5.keptV k6 (by simp)) (TOk.nil 0 0) hr1 hv1 (by omega) (by omega) hdb (by simp) (by simp) rfl⟩
    · refine .inl ⟨rfl, ?_⟩
      have hD6 := hD5.kp k6 (fun x hx => hx)
      have HK : ∀ W, Kept [w5.heap.size] w6 W → Kept [] w W := fun W kW => h6.k.trans kW (fun x hx => .inr (by simp at hx; rw [hx]; exact hdb))
      refine (tabApply_any hD6 List.Pairwise.nil (Hid.mk rfl) (Hid.mk fun W kW => hr0.kept (HK W kW) (by simp)) (Hid.mk fun W kW => hv0.kept (HK W kW) (by simp)) (Hid.mk (by simp; omega)) (by omega)).mono ?_
      rintro e w7 ⟨rfl, v7, hD7, k7, hN7⟩
      have h7 := h6.turn (V' := TV w5.heap.size v7 (tapp [] (rs0.map Cq.c))) k7 (fun x hx => by simp at hx; rw [hx]; exact .inl rfl) (fun x hx => by
        rcases hx with rfl | ⟨_, hx⟩
        · exact .inl (.inl rfl)
        · rcases hN7 with ⟨_, rfl⟩ | h
          · simp [Value.ownBlock] at hx
          · exact .inr (h x hx)) (fun x hx => TV.lt hD7 hx)
      have hv := hw.vals
      have hok7 := (TOk.nil 0 0).app hw
      rw [List.length_map] at hok7
      simp at ho6 hs6
      exact ⟨rfl, lost_m hf30 h7 hkv hD7 hok7 hr1 hv1 (by omega) (by omega) hdb (by omega) (by omega) hd6⟩
    · exact .inr ⟨by omega, lost_m hf30 (hT5.kept k6) rfl (hD5.keptV k6 (by simp)) (TOk.nil 0 0) hr1 hv1 (by omega) (by omega) hdb (by simp) (by simp) rfl⟩
    · simp at hfu
end
end Go.Proofs.YtaefmhfkjpnbiaaGreat
