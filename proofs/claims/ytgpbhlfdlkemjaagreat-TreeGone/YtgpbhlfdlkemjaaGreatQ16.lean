import Derived.Deep.RegionLaw
import Derived.Deep.DrawnRows
import Derived.Test.YtgpbhlfdlkemjaaGreatQ15
/-
  leaves, branches, leave, filled: new nodes.
-/
namespace Go.Proofs.YtgpbhlfdlkemjaaGreat
open Go.RowKit
set_option linter.unusedVariables false

/-- F's blocks, and those that are new since w. -/
def Fx (F : Nat → Prop) (w : World) : Nat → Prop := fun b => F b ∨ w.heap.size ≤ b
/-- F's blocks and the new ones, but the row u. -/
def Fu (F : Nat → Prop) (w : World) (u : Value) : Nat → Prop := fun b => Fx F w b ∧ u.ownBlock ≠ some b
/-- What isn't there yet has no ref. -/
def Blank (ρ : Rho) (w : World) : Prop := ∀ b, w.heap.size ≤ b → ρ b = (0, 0)
theorem Blank.kept {ρ : Rho} {w w' : World} {S : List Nat} (h : Blank ρ w) (k : Kept S w w') : Blank ρ w' := fun b hb => h b (Nat.le_trans k.size hb)
/-- Nodes in memory. -/
def IsNs (w : World) (F : Nat → Prop) (ρ : Rho) {k : Nat} (ns : List (Tr k)) : Prop := ∀ m ∈ ns, IsN w F ρ m
theorem IsNs.kept {w w' : World} {F : Nat → Prop} {ρ : Rho} {k : Nat} {ns : List (Tr k)} {S : List Nat} (h : IsNs w F ρ ns) (kk : Kept S w w') (hS : ∀ x ∈ S, ¬ F x) : IsNs w' F ρ ns := fun m hm => (h m hm).kept kk hS
theorem IsNs.mono {w : World} {F F' : Nat → Prop} {ρ : Rho} {k : Nat} {ns : List (Tr k)} (h : IsNs w F ρ ns) (hF : ∀ x, F x → F' x) : IsNs w F' ρ ns := fun m hm => (h m hm).mono hF
/-- Behind an append to the row u the nodes are as they were. -/
theorem IsNs.grew {w0 w w' : World} {F : Nat → Prop} {ρ : Rho} {k : Nat} {ns : List (Tr k)} {u u' : Value} (h : IsNs w (Fu F w0 u) ρ ns) (kk : Kept u.ownBlock.toList w w') (hN : New w u u') : IsNs w' (Fu F w0 u') ρ ns := fun m hm => by
  have h1 : IsN w (fun b => Fu F w0 u b ∧ b < w.heap.size) ρ m := (h m hm).monoS fun x hx hf => ⟨hf, hx⟩
  refine (h1.kept kk (fun x hx hf => hf.1.2 (by simpa using hx))).mono fun x hx => ⟨hx.1.1, fun e => ?_⟩
  rcases hN x e with h2 | h2
  · exact hx.1.2 h2
  · have := hx.2; omega
theorem IsNs.nil (w : World) (F : Nat → Prop) (ρ : Rho) (k : Nat) : IsNs w F ρ ([] : List (Tr k)) := fun m hm => by simp at hm
theorem IsNs.snoc {w : World} {F : Nat → Prop} {ρ : Rho} {k : Nat} {ns : List (Tr k)} {m : Tr k} (h : IsNs w F ρ ns) (hm : IsN w F ρ m) : IsNs w F ρ (ns ++ [m]) := fun x hx => by
  rcases List.mem_append.1 hx with hx | hx
  · exact h x hx
  · simp at hx; subst hx; exact hm
theorem IsNs.append {w : World} {F : Nat → Prop} {ρ : Rho} {k : Nat} {ns ms : List (Tr k)} (h : IsNs w F ρ ns) (hm : IsNs w F ρ ms) : IsNs w F ρ (ns ++ ms) := fun x hx => by
  rcases List.mem_append.1 hx with hx | hx
  · exact h x hx
  · exact hm x hx
theorem ReadsR.one {w : World} {a : Option Addr} {m c : Nat} {vs : List Value} (hm : m = vs.length) (h : ReadsR 1 w (.slice a m c) (vs.map fun x => [x])) {j : Nat} {x : Value} (hx : vs[j]? = some x) : ∃ b o, a = some ⟨b, o, none⟩ ∧ w.cell? ⟨b, o + j, none⟩ = some x := by
  obtain ⟨b, o, c', e, hc⟩ := h.at j [x] (by rw [List.getElem?_map, hx]; rfl)
  injection e with e _ _
  have := hc 0 x rfl
  rw [Nat.mul_one, Nat.add_zero] at this
  exact ⟨b, o, e, this⟩
theorem wide_one {vs : List Value} (h : ∀ x ∈ vs, x.oneCell' = true) : Wide 1 (vs.map fun x => [x]) := fun r hr => by
  obtain ⟨x, hx, rfl⟩ := List.mem_map.1 hr
  exact ⟨rfl, fun u hu => by simp at hu; rw [hu]; exact h x hx⟩
theorem Slcs.all {α : Type} {w : World} {v0 : Value} {ad : α → Nat} {R : List (List α)} {vs : List Value} (h : Slcs w v0 ad R vs) : ∀ x ∈ vs, x.oneCell' = true := fun x hx => by
  obtain ⟨j, hj⟩ := List.getElem?_of_mem hx
  have hlt := (List.getElem?_eq_some_iff.1 hj).1
  obtain ⟨r, hr⟩ : ∃ r, R[j]? = some r := ⟨_, List.getElem?_eq_getElem (by rw [← h.1]; exact hlt)⟩
  exact (h.2 j r x hr hj).2.2
theorem RunsOk.len {α : Type} {sz : α → Nat} {l : List α} {R : List (List α)} (h : RunsOk sz l R) : R.length ≤ l.length := by
  have : ∀ (D : List (List α)), (∀ r ∈ D, r ≠ []) → D.length ≤ D.flatten.length := fun D hD => by
    induction D with
    | nil => simp
    | cons r D ih =>
      have := ih fun x hx => hD x (by simp [hx])
      have := List.length_pos_iff.2 (hD r (by simp))
      rw [List.flatten_cons, List.length_append, List.length_cons]
      omega
  have h2 := this R fun r hr => (h.runs r hr).1
  rw [h.flat] at h2
  exact h2
/-- A new node's block. -/
theorem IsB.new {w w' : World} {F : Nat → Prop} {ρ : Rho} (hB : ρ w.heap.size = (0, 0)) {lv : Nat} {vi vu : Value} {is us : List Nat} {S : List Nat} (k : Kept S (w.alloc (.cells #[.int .i64 0, .int .u64 0, .int .i64 (lv : Int), vi, vu] 114)) w') (hS : ∀ x ∈ S, x < w.heap.size)
    (hi : ReadsP w' vi is) (hu : ReadsP w' vu us) (hF : F w.heap.size) (hFi : is ≠ [] → ∀ g, vi.ownBlock = some g → F g) (hFu : us ≠ [] → ∀ g, vu.ownBlock = some g → F g) : IsB w' F w.heap.size (ρ w.heap.size) lv is us := by
  refine ⟨vi, vu, ?_, hi, hu, hF, hFi, hFu⟩
  have h1 : (w.alloc (.cells #[.int .i64 0, .int .u64 0, .int .i64 (lv : Int), vi, vu] 114)).heap[w.heap.size]? = some (.cells #[.int .i64 0, .int .u64 0, .int .i64 (lv : Int), vi, vu] 114 (0, 0)) := heap_alloc_new w _
  rw [hB]
  exact k.keeps h1 (fun hm => by have := hS _ hm; omega)
section
variable {w : World} {F : Nat → Prop} {ρ : Rho}
set_option maxRecDepth 100000 in
set_option maxHeartbeats 1000000 in
/-- leaves: of items a leaf a run. -/
theorem leaves_any (hB : Blank ρ w) (a : Option Addr) (n c : Nat) (is : List Itm) (hn : Hid (n = is.length)) (hr : ReadsP w (.slice a n c) (is.map Itm.ad)) (hF : Hid (∀ g, (Value.slice a n c).ownBlock = some g → F g ∧ g < w.heap.size)) (hl : n ≤ 100000) (hsz : Hid (∀ i ∈ is, isz i ≤ 236)) (hks : Hid (∀ i ∈ is, i.key.length ≤ 1000 ∧ i.val.length ≤ 100000)) (hI : Hid (∀ i ∈ is, IsI w F ρ i)) :
    Calls Tryz.prog 120 #[.slice a n c] w fun e w' => ∃ (v : Value) (ns : List (Tr 0)), e = .returned v ∧ OwnsP 77 w' v (ns.map adr) ∧ IsNs w' (Fx F w) ρ ns ∧ (∀ m ∈ ns, Wf m) ∧ ns.flatMap its = is ∧ (∀ m ∈ ns, w.heap.size ≤ adr m) ∧ Kept [] w w' ∧ Fresh w v := by
  have hrun := runsI_any a n c is hn hr (Hid.mk fun g hg => (hF.out g hg).2) hl isz hsz (Hid.mk fun W kW i hi => item_size ((hI.out i hi).kept kW (by simp)) (hks.out i hi).1 (hks.out i hi).2)
  go_enter Tryz.func120, Tryz.ntmps120
  go_wp2_with fail
  refine hrun.mono ?_
  rintro e w1 ⟨v1, R, vs, rfl, hok, ho1, hsl1, k1, hfr1⟩
  obtain ⟨a1, c1, rfl, -⟩ := ho1.form
  rw [List.length_map] at ho1 hfr1 ⊢
  have hRl : R.length = vs.length := hsl1.1.symm
  have HOK := Hid.mk hok
  have HRL := Hid.mk hRl
  clear hok hRl hrun hr
  have hvl : vs.length ≤ 100000 := by
    have h1 := HOK.out.len
    have h2 := hn.out
    rw [HRL.out] at h1
    omega
  generalize hm : vs.length = m at *
  have HM := Hid.mk hm
  clear hm
  go_wp2_with fail
  go_loopw [3, 9] (fun u i wr => ∃ (j : Nat) (ns : List (Tr 0)), i = .int .i64 (j : Int) ∧ j ≤ m ∧ Hid (ns.map Prod.snd = R.take j) ∧ OwnsP 77 wr u (ns.map adr) ∧ IsNs wr (Fu F w u) ρ ns ∧ Hid (∀ x ∈ ns, w.heap.size ≤ adr x) ∧ Kept [] w1 wr ∧ Fresh w1 u) (fun _ i _ => m - (intOf i).toNat)
  case atStart => exact ⟨0, [], rfl, by omega, Hid.mk rfl, OwnsP.nil _ _, IsNs.nil _ _ _ _, Hid.mk (by simp), Kept.refl [] w1, fun g hg => by simp [Value.ownBlock] at hg⟩
  case round =>
    obtain ⟨j, ns, rfl, hj, HN, ho, hns, hnew, k, hfr⟩ := hrel
    by_cases hlt : j < m
    · obtain ⟨x, hx⟩ : ∃ x, vs[j]? = some x := ⟨_, List.getElem?_eq_getElem (by have := HM.out; omega)⟩
      obtain ⟨r, hrj⟩ : ∃ r, R[j]? = some r := ⟨_, List.getElem?_eq_getElem (by have := HM.out; have := HRL.out; omega)⟩
      obtain ⟨hxr, hxo, hx1⟩ := hsl1.2 j r x hrj hx
      have hrow := (ho1.reads (wide_one hsl1.all)).kept k (by simp)
      obtain ⟨b, o, rfl, hcell⟩ := ReadsR.one HM.out.symm hrow hx
      obtain ⟨ax, cx, rfl, -⟩ := hxr.form
      rw [List.length_map] at hxr hxo hcell
      have kn := (Kept.refl [] wr).alloc (.cells #[.int .i64 0, .int .u64 0, .int .i64 0, .slice ax r.length cx, .slice none 0 0] 114)
      have hnl' : ns.length = j := by
        have := congrArg List.length HN.out
        rw [List.length_map, List.length_take] at this
        have := HM.out
        have := HRL.out
        omega
      obtain ⟨a4, c4, w4, hrun, ho4, k4, hN4⟩ := append_ptr rt112 (ho.kept kn (by simp)) wr.heap.size (by rw [List.length_map]; omega) 77 (0, 0) 112
      have hsz1 : (wr.alloc (.cells #[.int .i64 0, .int .u64 0, .int .i64 0, .slice ax r.length cx, .slice none 0 0] 114)).heap.size = wr.heap.size + 1 := by simp
      rw [hsz1] at hrun
      have hul : ∀ g ∈ u3.ownBlock.toList, w1.heap.size ≤ g ∧ g < wr.heap.size := fun g hg => ⟨hfr g (by simpa using hg), ho.lt (by simpa using hg)⟩
      have kr4 : Kept u3.ownBlock.toList wr w4 := (kn.mono (by simp)).trans k4 (fun y hy => .inl hy)
      have kk4 : Kept [] w1 w4 := k.trans kr4 (fun y hy => .inr (hul y hy).1)
      have hkw := k1.size
      have hx4 : ReadsP w4 (.slice ax r.length cx) (r.map Itm.ad) := (hxr.kept k (by simp)).kept kr4 (fun g hg hm => by
        have h1 := (hF.out g (hxo g hg)).2
        have h2 := (hul g hm).1
        omega)
      have hu4 : ∀ g, (Value.slice a4 ((ns.map adr).length + 1) c4).ownBlock = some g → w1.heap.size ≤ g ∧ g ≠ wr.heap.size := fun g hg => by
        rcases hN4 g hg with h | h
        · have := hul g (by simpa using h); omega
        · rw [hsz1] at h
          have := k.size
          omega
      have hNw : New wr u3 (.slice a4 ((ns.map adr).length + 1) c4) := fun g hg => by
        rcases hN4 g hg with h | h
        · exact .inl h
        · rw [hsz1] at h
          exact .inr (by omega)
      have hns4 : IsNs w4 (Fu F w (.slice a4 ((ns.map adr).length + 1) c4)) ρ ns := hns.grew kr4 hNw
      have hnew4 : IsN w4 (Fu F w (.slice a4 ((ns.map adr).length + 1) c4)) ρ (k := 0) (wr.heap.size, r) := by
        refine ⟨?_, fun i hi => ?_⟩
        · have := IsB.new (F := Fu F w (.slice a4 ((ns.map adr).length + 1) c4)) (hB wr.heap.size (Nat.le_trans hkw k.size)) (lv := 0) k4 (fun y hy => (hul y hy).2) hx4 (ReadsP.nil w4) ⟨.inr (Nat.le_trans hkw k.size), fun e => (hu4 _ e).2 rfl⟩ (fun _ g hg => ⟨.inl (hF.out g (hxo g hg)).1, fun e => by have h1 := (hu4 g e).1; have h2 := (hF.out g (hxo g hg)).2; omega⟩) (fun h => absurd rfl h)
          exact this
        · have him : i ∈ is := by
            rw [← HOK.out.flat]
            exact List.mem_flatten.2 ⟨r, List.mem_of_getElem? hrj, hi⟩
          have h1 : IsI w (Fu F w (.slice a4 ((ns.map adr).length + 1) c4)) ρ i := (hI.out i him).monoS fun x hx hf => ⟨.inl hf, fun e => by have := (hu4 x e).1; omega⟩
          exact h1.kept (k1.trans kk4 (by simp)) (by simp)
      have HN4 : Hid ((ns ++ [(wr.heap.size, r)]).map Prod.snd = R.take (j + 1)) := Hid.mk (by rw [List.map_append, HN.out, List.take_add_one, hrj]; rfl)
      have hfr4 : Fresh w1 (.slice a4 ((ns.map adr).length + 1) c4) := fun g hg => by
        rcases hN4 g hg with h | h
        · exact hfr g h
        · rw [hsz1] at h
          have := k.size
          omega
      rw [List.length_map] at hrun ho4 hfr4 hns4 hnew4
      have ho5 : OwnsP 77 w4 (.slice a4 (ns.length + 1) c4) ((ns ++ [((wr.heap.size, r) : Tr 0)]).map adr) := by rw [List.map_append]; exact ho4
      have Hall := Hid.mk (And.intro ho5 (And.intro (hns4.snoc hnew4) (And.intro (Hid.mk (fun x hx => by
        rcases List.mem_append.1 hx with h | h
        · exact hnew.out x h
        · simp at h
          subst h
          exact Nat.le_trans hkw k.size) : Hid (∀ x ∈ ns ++ [((wr.heap.size, r) : Tr 0)], w.heap.size ≤ adr x)) (And.intro kk4 hfr4))))
      clear hnl'
      clear ho4 ho5 hns4 hnew4 kk4 hfr4 hN4 k4 kr4 hx4 hul hns hnew ho kn hrow hxr hxo hx1 hu4 hNw
      generalize r.length = rl at *
      go_wp2_with (at_builtin; refine wpList_append_run 112 _ _ rfl rfl _ _ rfl rfl _ _ hrun ?_)
      go_roundw
      case rel => exact ⟨j + 1, _, by go_num, by omega, HN4, Hall.out⟩
      case measure => simp [intOf]; omega
    · obtain rfl : j = m := by omega
      have hRt : R.take j = R := List.take_of_length_le (by have := HM.out; have := HRL.out; omega)
      have HE := HN.out
      rw [hRt] at HE
      have hfl : ns.flatMap its = is := by
        rw [← HOK.out.flat, ← HE]
        rw [List.flatMap_def]
        rfl
      have hwf : ∀ x ∈ ns, Wf x := fun x hx => by
        have := HOK.out.runs x.2 (by rw [← HE]; exact List.mem_map.2 ⟨x, hx, rfl⟩)
        exact this
      have Hall := Hid.mk (And.intro ho (And.intro (hns.mono fun x hx => hx.1 : IsNs wr (Fx F w) ρ ns) (And.intro hwf (And.intro hfl (And.intro hnew.out (And.intro (k1.trans k (by simp)) (fun g hg => Nat.le_trans k1.size (hfr g hg) : Fresh w u3)))))))
      clear ho hns hwf hfl hnew k hfr HE hRt
      go_wp2
      go_ret
      exact ⟨_, ns, rfl, Hall.out⟩
end
end Go.Proofs.YtgpbhlfdlkemjaaGreat
/-
  branches.
-/
namespace Go.Proofs.YtgpbhlfdlkemjaaGreat
open Go.RowKit
set_option linter.unusedVariables false

theorem nodeSize_any (w : World) (a : Nat) : Calls Tryz.prog 200 #[Pp a] w fun e w' => e = .returned (.int .i64 ((10 : Nat) : Int)) ∧ ∃ q, w' = w.drewN q := by
  go_enter Tryz.func200, Tryz.ntmps200
  go_wp2
  go_ret
  exact ⟨rfl, 0, rfl⟩
section
variable {w : World} {F : Nat → Prop} {ρ : Rho}
set_option maxRecDepth 100000 in
set_option maxHeartbeats 1000000 in
/-- branches: of nodes a branch a run. -/
theorem branches_any {d : Nat} (hd : d ≤ 100000) (hB : Blank ρ w) (a : Option Addr) (n c : Nat) (is : List (Tr d)) (hn : Hid (n = is.length)) (hr : ReadsP w (.slice a n c) (is.map adr)) (hF : Hid (∀ g, (Value.slice a n c).ownBlock = some g → F g ∧ g < w.heap.size)) (hl : n ≤ 100000) (hW : Hid (∀ u ∈ is, Wf u)) (hA : Hid (Apart fil is)) (hI : Hid (IsNs w F ρ is)) :
    Calls Tryz.prog 79 #[.int .i64 ((d : Int) + 1), .slice a n c] w fun e w' => ∃ (v : Value) (ns : List (Tr (d + 1))), e = .returned v ∧ OwnsP 77 w' v (ns.map adr) ∧ IsNs w' (Fx F w) ρ ns ∧ (∀ m ∈ ns, Wf m) ∧ (ns.flatMap its = is.flatMap its ∧ (ns.flatMap fun m => m.2) = is ∧ (2 ≤ is.length → ns.length < is.length)) ∧ (∀ m ∈ ns, w.heap.size ≤ adr m) ∧ Kept [] w w' ∧ Fresh w v := by
  have hrun := runsN_any a n c is hn hr (Hid.mk fun g hg => (hF.out g hg).2) hl (fun _ => 10) (Hid.mk fun _ _ => by omega) (Hid.mk fun W kW i hi => nodeSize_any W (adr i))
  go_enter Tryz.func79, Tryz.ntmps79
  go_wp2_with fail
  refine hrun.mono ?_
  rintro e w1 ⟨v1, R, vs, rfl, hok, ho1, hsl1, k1, hfr1⟩
  obtain ⟨a1, c1, rfl, -⟩ := ho1.form
  rw [List.length_map] at ho1 hfr1 ⊢
  have hRl : R.length = vs.length := hsl1.1.symm
  have HOK := Hid.mk hok
  have HRL := Hid.mk hRl
  clear hok hRl hrun hr
  have hvl : vs.length ≤ 100000 := by
    have h1 := HOK.out.len
    have h2 := hn.out
    rw [HRL.out] at h1
    omega
  generalize hm : vs.length = m at *
  have HM := Hid.mk hm
  clear hm
  go_wp2_with fail
  go_loopw [5, 11] (fun u i wr => ∃ (j : Nat) (ns : List (Tr (d + 1))), i = .int .i64 (j : Int) ∧ j ≤ m ∧ Hid (ns.map Prod.snd = R.take j) ∧ OwnsP 77 wr u (ns.map adr) ∧ IsNs wr (Fu F w u) ρ ns ∧ Hid (∀ x ∈ ns, w.heap.size ≤ adr x) ∧ Kept [] w1 wr ∧ Fresh w1 u) (fun _ i _ => m - (intOf i).toNat)
  case atStart => exact ⟨0, [], rfl, by omega, Hid.mk rfl, OwnsP.nil _ _, IsNs.nil _ _ _ _, Hid.mk (by simp), Kept.refl [] w1, fun g hg => by simp [Value.ownBlock] at hg⟩
  case round =>
    obtain ⟨j, ns, rfl, hj, HN, ho, hns, hnew, k, hfr⟩ := hrel
    by_cases hlt : j < m
    · obtain ⟨x, hx⟩ : ∃ x, vs[j]? = some x := ⟨_, List.getElem?_eq_getElem (by have := HM.out; omega)⟩
      obtain ⟨r, hrj⟩ : ∃ r, R[j]? = some r := ⟨_, List.getElem?_eq_getElem (by have := HM.out; have := HRL.out; omega)⟩
      obtain ⟨hxr, hxo, hx1⟩ := hsl1.2 j r x hrj hx
      have hrow := (ho1.reads (wide_one hsl1.all)).kept k (by simp)
      obtain ⟨b, o, rfl, hcell⟩ := ReadsR.one HM.out.symm hrow hx
      obtain ⟨ax, cx, rfl, -⟩ := hxr.form
      rw [List.length_map] at hxr hxo hcell
      have kn := (Kept.refl [] wr).alloc (.cells #[.int .i64 0, .int .u64 0, .int .i64 ((d : Int) + 1), .slice none 0 0, .slice ax r.length cx] 114)
      have hnl' : ns.length = j := by
        have := congrArg List.length HN.out
        rw [List.length_map, List.length_take] at this
        have := HM.out
        have := HRL.out
        omega
      obtain ⟨a4, c4, w4, hrun, ho4, k4, hN4⟩ := append_ptr rt112 (ho.kept kn (by simp)) wr.heap.size (by rw [List.length_map]; omega) 77 (0, 0) 112
      have hsz1 : (wr.alloc (.cells #[.int .i64 0, .int .u64 0, .int .i64 ((d : Int) + 1), .slice none 0 0, .slice ax r.length cx] 114)).heap.size = wr.heap.size + 1 := by simp
      rw [hsz1] at hrun
      have hul : ∀ g ∈ u5.ownBlock.toList, w1.heap.size ≤ g ∧ g < wr.heap.size := fun g hg => ⟨hfr g (by simpa using hg), ho.lt (by simpa using hg)⟩
      have kr4 : Kept u5.ownBlock.toList wr w4 := (kn.mono (by simp)).trans k4 (fun y hy => .inl hy)
      have kk4 : Kept [] w1 w4 := k.trans kr4 (fun y hy => .inr (hul y hy).1)
      have hkw := k1.size
      have hx4 : ReadsP w4 (.slice ax r.length cx) (r.map adr) := (hxr.kept k (by simp)).kept kr4 (fun g hg hm => by
        have h1 := (hF.out g (hxo g hg)).2
        have h2 := (hul g hm).1
        omega)
      have hu4 : ∀ g, (Value.slice a4 ((ns.map adr).length + 1) c4).ownBlock = some g → w1.heap.size ≤ g ∧ g ≠ wr.heap.size := fun g hg => by
        rcases hN4 g hg with h | h
        · have := hul g (by simpa using h); omega
        · rw [hsz1] at h
          have := k.size
          omega
      have hNw : New wr u5 (.slice a4 ((ns.map adr).length + 1) c4) := fun g hg => by
        rcases hN4 g hg with h | h
        · exact .inl h
        · rw [hsz1] at h
          exact .inr (by omega)
      have hns4 : IsNs w4 (Fu F w (.slice a4 ((ns.map adr).length + 1) c4)) ρ ns := hns.grew kr4 hNw
      have hnew4 : IsN w4 (Fu F w (.slice a4 ((ns.map adr).length + 1) c4)) ρ (k := d + 1) (wr.heap.size, r) := by
        refine ⟨?_, fun i hi => ?_⟩
        · have := IsB.new (F := Fu F w (.slice a4 ((ns.map adr).length + 1) c4)) (hB wr.heap.size (Nat.le_trans hkw k.size)) (lv := d + 1) k4 (fun y hy => (hul y hy).2) (ReadsP.nil w4) hx4 ⟨.inr (Nat.le_trans hkw k.size), fun e => (hu4 _ e).2 rfl⟩ (fun h => absurd rfl h) (fun _ g hg => ⟨.inl (hF.out g (hxo g hg)).1, fun e => by have h1 := (hu4 g e).1; have h2 := (hF.out g (hxo g hg)).2; omega⟩)
          exact this
        · have him : i ∈ is := by
            rw [← HOK.out.flat]
            exact List.mem_flatten.2 ⟨r, List.mem_of_getElem? hrj, hi⟩
          have h1 : IsN w (Fu F w (.slice a4 ((ns.map adr).length + 1) c4)) ρ i := (hI.out i him).monoS fun x hx hf => ⟨.inl hf, fun e => by have := (hu4 x e).1; omega⟩
          exact h1.kept (k1.trans kk4 (by simp)) (by simp)
      have HN4 : Hid ((ns ++ [(wr.heap.size, r)]).map Prod.snd = R.take (j + 1)) := Hid.mk (by rw [List.map_append, HN.out, List.take_add_one, hrj]; rfl)
      have hfr4 : Fresh w1 (.slice a4 ((ns.map adr).length + 1) c4) := fun g hg => by
        rcases hN4 g hg with h | h
        · exact hfr g h
        · rw [hsz1] at h
          have := k.size
          omega
      rw [List.length_map] at hrun ho4 hfr4 hns4 hnew4
      have ho5 : OwnsP 77 w4 (.slice a4 (ns.length + 1) c4) ((ns ++ [((wr.heap.size, r) : Tr (d + 1))]).map adr) := by rw [List.map_append]; exact ho4
      have Hall := Hid.mk (And.intro ho5 (And.intro (hns4.snoc hnew4) (And.intro (Hid.mk (fun x hx => by
        rcases List.mem_append.1 hx with h | h
        · exact hnew.out x h
        · simp at h
          subst h
          exact Nat.le_trans hkw k.size) : Hid (∀ x ∈ ns ++ [((wr.heap.size, r) : Tr (d + 1))], w.heap.size ≤ adr x)) (And.intro kk4 hfr4))))
      clear hnl'
      clear ho4 ho5 hns4 hnew4 kk4 hfr4 hN4 k4 kr4 hx4 hul hns hnew ho kn hrow hxr hxo hx1 hu4 hNw
      generalize r.length = rl at *
      go_wp2_with (at_builtin; refine wpList_append_run 112 _ _ rfl rfl _ _ rfl rfl _ _ hrun ?_)
      go_roundw
      case rel => exact ⟨j + 1, _, by go_num, by omega, HN4, Hall.out⟩
      case measure => simp [intOf]; omega
    · obtain rfl : j = m := by omega
      have hRt : R.take j = R := List.take_of_length_le (by have := HM.out; have := HRL.out; omega)
      have HE := HN.out
      rw [hRt] at HE
      have hfl2 : (ns.flatMap fun m => m.2) = is := by
        rw [← HOK.out.flat, ← HE]
        rw [List.flatMap_def]
      have hfl : ns.flatMap its = is.flatMap its ∧ (ns.flatMap fun m => m.2) = is ∧ (2 ≤ is.length → ns.length < is.length) := by
        refine ⟨?_, hfl2, fun h2 => ?_⟩
        · rw [← hfl2, List.flatMap_assoc]
          rfl
        · have h3 := HOK.out.cnt (fun _ _ => rfl) h2
          have h4 := congrArg List.length HE
          rw [List.length_map] at h4
          omega
      have hwf : ∀ x ∈ ns, Wf x := fun x hx => by
        have h1 := HOK.out.runs x.2 (by rw [← HE]; exact List.mem_map.2 ⟨x, hx, rfl⟩)
        obtain ⟨A, B, e⟩ := List.append_of_mem hx
        have e2 : is = (A.flatMap fun m => m.2) ++ x.2 ++ (B.flatMap fun m => m.2) := by rw [← hfl2, e]; simp
        have h3 := h1.2
        rw [sum_const (sz := fun _ => 10) (fun _ _ => rfl)] at h3
        refine ⟨h1.1, by omega, fun u hu => hW.out u (by rw [e2]; simp [hu]), ?_⟩
        have h4 := hA.out
        rw [e2] at h4
        exact h4.inner
      have Hall := Hid.mk (And.intro ho (And.intro (hns.mono fun x hx => hx.1 : IsNs wr (Fx F w) ρ ns) (And.intro hwf (And.intro hfl (And.intro hnew.out (And.intro (k1.trans k (by simp)) (fun g hg => Nat.le_trans k1.size (hfr g hg) : Fresh w u5)))))))
      clear ho hns hwf hfl hfl2 hnew k hfr HE hRt
      go_wp2
      go_ret
      exact ⟨_, ns, rfl, Hall.out⟩
end
end Go.Proofs.YtgpbhlfdlkemjaaGreat
/-
  An update in memory: leave; a node's ref; filled; the names of a tree.
-/
namespace Go.Proofs.YtgpbhlfdlkemjaaGreat
open Go.RowKit
set_option linter.unusedVariables false

/-- F's blocks and those new since w, but the rows of vs. -/
def Fw (F : Nat → Prop) (w : World) (vs : List Value) : Nat → Prop := fun b => (F b ∨ w.heap.size ≤ b) ∧ ∀ v ∈ vs, v.ownBlock ≠ some b
/-- Rows of different types lie in different blocks. -/
theorem rows_apart {w : World} {e e' : TypeId} {k k' n n' : Nat} {v u : Value} {xs ys : List Value} (h : w.ownsRow 0 e k v n xs) (h2 : w.ownsRow 0 e' k' u n' ys) (he : e ≠ e') {g : Nat} (hg : u.ownBlock = some g) : v.ownBlock ≠ some g := fun e1 => by
  rcases h.2 with ⟨rfl, _⟩ | ⟨g1, cap, cur, rfl, _, hb, _⟩
  · simp [Value.ownBlock] at e1
  · rcases h2.2 with ⟨rfl, _⟩ | ⟨g2, cap2, cur2, rfl, _, hb2, _⟩
    · simp [Value.ownBlock] at hg
    · simp [Value.ownBlock] at e1 hg
      subst e1 hg
      rw [hb] at hb2
      simp at hb2
      exact he hb2.2
/-- An update at block ub, whose row is vl, has left these names. -/
structure IsU (w : World) (ub : Nat) (vl : Value) (left : List Nat) : Prop where
  box : w.heap[ub]? = some (.cells #[vl] 89 (0, 0))
  own : OwnsI w vl left
  apart : vl.ownBlock ≠ some ub
theorem IsU.kept {w w' : World} {ub : Nat} {vl : Value} {left : List Nat} {S : List Nat} (h : IsU w ub vl left) (k : Kept S w w') (hu : ub ∉ S) (hv : ∀ g, vl.ownBlock = some g → g ∉ S) : IsU w' ub vl left := ⟨k.keeps h.box hu, h.own.kept k hv, h.apart⟩
theorem IsU.lt {w : World} {ub : Nat} {vl : Value} {left : List Nat} (h : IsU w ub vl left) : ub < w.heap.size := lt_of_block h.box
/-- What an update may turn. -/
def uf (ub : Nat) (vl : Value) : List Nat := ub :: vl.ownBlock.toList
theorem mem_uf {ub x : Nat} {vl : Value} : x ∈ uf ub vl ↔ x = ub ∨ vl.ownBlock = some x := by simp [uf, Option.mem_toList]
/-- The name of a ref, if it is put. -/
def pn (ρ : Rho) (a : Nat) : List Nat := if (ρ a).1 = 0 then [] else [(ρ a).1]
/-- The names of all that is put of a node. -/
def nms (ρ : Rho) : {k : Nat} → Tr k → List Nat
  | 0, n => (n.2.flatMap fun i => pn ρ i.ad) ++ pn ρ n.1
  | k + 1, n => n.2.flatMap (nms ρ (k := k)) ++ pn ρ n.1
theorem pn_blank {ρ : Rho} {a : Nat} (h : ρ a = (0, 0)) : pn ρ a = [] := by simp [pn, h]
section
variable {w : World} {F : Nat → Prop} {ρ : Rho}
set_option maxRecDepth 100000 in
theorem isPut_any (nm sm : Nat) (w : World) : Calls Tryz.prog 82 #[.agg #[.int .i64 (nm : Int), .int .u64 (sm : Int)]] w fun e w' => e = .returned (.bool (decide (nm ≠ 0))) ∧ Kept [] w w' := by
  go_enter Tryz.func82, Tryz.ntmps82
  go_wp2
  go_ret
  refine ⟨congrArg (fun b => Ending.returned (.bool b)) ?_, (Kept.refl [] w).alloc _⟩
  rw [Bool.eq_iff_iff]
  simp
set_option maxRecDepth 100000 in
set_option maxHeartbeats 1000000 in
theorem leave_any {ub : Nat} {vl : Value} {left : List Nat} (h : IsU w ub vl left) (hl : left.length ≤ 900000) (nm sm : Nat) : Calls Tryz.prog 118 #[Pp ub, .agg #[.int .i64 (nm : Int), .int .u64 (sm : Int)]] w fun e w' => e = .returned (.tuple #[]) ∧ ∃ vl', IsU w' ub vl' (left ++ (if nm = 0 then [] else [nm])) ∧ Kept (uf ub vl) w w' ∧ New w vl vl' := by
  have hput := fun W => isPut_any nm sm W
  by_cases h0 : nm = 0
  · rw [if_pos h0]
    have hd : decide (nm ≠ 0) = false := by simpa using h0
    rw [hd] at hput
    rw [List.append_nil]
    clear h0 hd
    go_enter Tryz.func118, Tryz.ntmps118
    go_wp2_with fail
    refine (hput _).mono ?_
    rintro e w' ⟨rfl, k⟩
    have kk := (kept_alloc w (.cells #[.int .i64 (nm : Int), .int .u64 (sm : Int)] 102)).trans k (by simp)
    have Hf := Hid.mk (And.intro (h.kept kk (by simp) (by simp)) (And.intro (kk.mono (by simp) : Kept (uf ub vl) w w') (New.refl w vl)))
    clear k kk
    go_wp2
    go_end0
    exact ⟨rfl, vl, Hf.out⟩
  · rw [if_neg h0]
    have hd : decide (nm ≠ 0) = true := by simpa using h0
    rw [hd] at hput
    clear h0 hd
    go_enter Tryz.func118, Tryz.ntmps118
    go_wp2_with fail
    refine (hput _).mono ?_
    rintro e w' ⟨rfl, k⟩
    have kk := (kept_alloc w (.cells #[.int .i64 (nm : Int), .int .u64 (sm : Int)] 102)).trans k (by simp)
    have hc0 : w'.cell? ⟨w.heap.size, 0, none⟩ = some (.int .i64 (nm : Int)) := by
      have h1 : (w.alloc (.cells #[.int .i64 (nm : Int), .int .u64 (sm : Int)] 102)).heap[w.heap.size]? = some (.cells #[.int .i64 (nm : Int), .int .u64 (sm : Int)] 102 (0, 0)) := heap_alloc_new w _
      have h2 := k.keeps h1 (by simp)
      simp [World.cell?, h2]
    have hU := h.kept kk (by simp) (by simp)
    have hcu := cell_of_one hU.box
    obtain ⟨ad, c, w3, hrun, ho3, k3, hN3⟩ := append_int (w := w'.drew) (hU.own.kept ((Kept.refl [] w').drew) (by simp)) nm (by omega)
    have hb3 : w3.heap[ub]? = some (.cells #[vl] 89 (0, 0)) := k3.keeps (((Kept.refl [] w').drew).keeps hU.box (by simp)) (fun hm => hU.apart (by simpa using hm))
    have hc3 := cell_of_one hb3
    have hf3 := free_of_one hb3
    have hul := hU.lt
    have hne : (Value.slice ad (left.length + 1) c).ownBlock ≠ some ub := fun e => by
      rcases hN3 ub e with h1 | h1
      · exact hU.apart h1
      · exact absurd hul (Nat.not_lt.2 h1)
    have hfin : Hid (∃ vl', IsU (w3.setCell ⟨ub, 0, none⟩ (.slice ad (left.length + 1) c)) ub vl' (left ++ [nm]) ∧ Kept (uf ub vl) w (w3.setCell ⟨ub, 0, none⟩ (.slice ad (left.length + 1) c)) ∧ New w vl vl') := Hid.mk (by
      have k4 : Kept [ub] w3 (w3.setCell ⟨ub, 0, none⟩ (.slice ad (left.length + 1) c)) := (Kept.refl [ub] w3).setCell (.inl (by simp)) _
      refine ⟨_, ⟨one_setCell hb3, ho3.kept k4 (fun g hg hm => ?_), hne⟩, ?_, fun g hg => ?_⟩
      · simp at hm
        subst hm
        exact hne hg
      · have k5 : Kept (uf ub vl) w w3 := (kk.mono (by simp) : Kept (uf ub vl) w w').trans (((Kept.refl [] w').drew.mono (T := vl.ownBlock.toList) (by simp)).trans k3 (fun x hx => .inl hx)) (fun x hx => .inl (mem_uf.2 (.inr (by simpa using hx))))
        exact k5.trans k4 (fun x hx => .inl (mem_uf.2 (.inl (by simpa using hx))))
      · rcases hN3 g hg with h1 | h1
        · exact .inl h1
        · exact .inr (Nat.le_trans kk.size h1))
    clear hU hN3 k3 ho3 hb3 h k kk hne
    go_wp2_with fail
    go_region_law ((refine step_append_run 41 (.tmp 10) (.tmp 13) (by rfl) (by rfl) _ _ (by rfl) (by rfl) hrun ?_))
    all_goals
      go_wp2
      go_end0
      exact ⟨rfl, hfin.out⟩
end
end Go.Proofs.YtgpbhlfdlkemjaaGreat
/-
  filled.
-/
namespace Go.Proofs.YtgpbhlfdlkemjaaGreat
open Go.RowKit
set_option linter.unusedVariables false

/-- Items of sizes that are looked at. -/
def Sized (l : List Itm) : Prop := ∀ i ∈ l, 1 ≤ i.key.length ∧ i.key.length ≤ 64 ∧ i.val.length ≤ 20000
theorem isz_le {i : Itm} (h : i.key.length ≤ 64 ∧ i.val.length ≤ 20000) : isz i ≤ 236 := by unfold isz; split <;> omega
section
variable {w : World} {F : Nat → Prop} {ρ : Rho}
set_option maxRecDepth 100000 in
set_option maxHeartbeats 1000000 in
/-- filled, of a branch. -/
theorem filled_br {k : Nat} {n : Tr (k + 1)} (h : IsN w F ρ n) (hl : n.2.length ≤ 1000000) : Calls Tryz.prog 123 #[Pp n.1] w fun e w' => e = .returned (.int .i64 ((n.2.length * 10 : Nat) : Int)) ∧ ∃ q, w' = w.drewN q := by
  obtain ⟨aI, cI, aU, cU, c2, c3, c4, r3, r4⟩ := h.br
  generalize n.2.length = N at *
  generalize n.1 = A at *
  clear h r3 r4
  go_enter Tryz.func123, Tryz.ntmps123
  go_wp2_with fail
  go_loopw [3, 17] (fun v i wr => v = .int .i64 ((N * 10 : Nat) : Int) ∧ i = .int .i64 0 ∧ w = wr) (fun _ _ _ => 0)
  case atStart => exact ⟨by go_num, rfl, rfl⟩
  case round =>
    obtain ⟨rfl, rfl, rfl⟩ := hrel
    go_wp2
    go_ret
    exact ⟨rfl, 0, rfl⟩
set_option maxRecDepth 100000 in
set_option maxHeartbeats 1000000 in
/-- filled, of a leaf. -/
theorem filled_lf {n : Tr 0} (h : IsN w F ρ n) (hl : n.2.length ≤ 100000) (hs : Sized n.2) : Calls Tryz.prog 123 #[Pp n.1] w fun e w' => e = .returned (.int .i64 ((fil n : Nat) : Int)) ∧ ∃ q, w' = w.drewN q := by
  obtain ⟨aI, cI, aU, cU, c2, c3, c4, r3, r4⟩ := h.lf
  have hI := Hid.mk h.2
  obtain ⟨S, hS⟩ : ∃ S : Nat → Nat, Hid (∀ j, S j = ((n.2.take j).map isz).sum) := ⟨fun j => ((n.2.take j).map isz).sum, Hid.mk fun _ => rfl⟩
  have HS0 : Hid (S 0 = 0) := Hid.mk (by rw [hS.out]; rfl)
  have HSb : Hid (∀ j, j ≤ n.2.length → S j ≤ 23600000) := Hid.mk fun j hj => by rw [hS.out]; exact sum_take_le (b := 236) (fun x hx => isz_le (hs x hx).2) hj hl (by omega)
  have HSs : Hid (∀ j x, n.2[j]? = some x → S (j + 1) = S j + isz x) := Hid.mk fun j x hx => by rw [hS.out, hS.out]; exact sum_take_succ hx
  have HSe : Hid (S n.2.length = fil n) := Hid.mk (by rw [hS.out, List.take_length]; rfl)
  have HN : Hid (n.2.length = n.2.length) := Hid.mk rfl
  have hsz := Hid.mk hs
  clear h hs r4
  generalize hN : n.2.length = N at *
  have HNN := Hid.mk hN
  clear hN HN
  generalize n.1 = A at *
  go_enter Tryz.func123, Tryz.ntmps123
  go_wp2_with fail
  go_loopw [3, 17] (fun v i wr => ∃ j : Nat, i = .int .i64 (j : Int) ∧ j ≤ N ∧ v = .int .i64 (S j : Int) ∧ Hid (∃ q, wr = w.drewN q) ∧ Kept [] w wr) (fun _ i _ => N - (intOf i).toNat)
  case atStart => exact ⟨0, rfl, by omega, by rw [HS0.out]; rfl, Hid.mk ⟨0, rfl⟩, Kept.refl [] w⟩
  case round =>
    obtain ⟨j, rfl, hj, rfl, HQ, k⟩ := hrel
    have hrr := r3.kept k (by simp)
    have hb := HSb.out j hj
    by_cases hlt : j < N
    · obtain ⟨x, hx⟩ : ∃ x, n.2[j]? = some x := ⟨_, List.getElem?_eq_getElem (by have := HNN.out; omega)⟩
      obtain ⟨b, o, c', e, hcell⟩ := hrr.at j x.ad (by rw [List.getElem?_map, hx]; rfl)
      rw [List.length_map, HNN.out] at e
      injection e with e _ e2
      subst e e2
      have hm := List.mem_of_getElem? hx
      have hss := item_size ((hI.out x hm).kept k (by simp)) (by have := (hsz.out x hm).2.1; omega) (by have := (hsz.out x hm).2.2; omega)
      have hsx := isz_le (hsz.out x hm).2
      have HN := Hid.mk (HSs.out j x hx)
      generalize isz x = sx at hss hsx HN
      generalize x.ad = xa at hss hcell
      clear hx hm r3 hrr
      go_wp2_with fail
      refine hss.mono ?_
      rintro e w' ⟨rfl, q, rfl⟩
      go_wp2
      go_roundw
      case rel => exact ⟨j + 1, by go_num, by omega, by rw [HN.out]; go_num, Hid.mk (by obtain ⟨q0, e⟩ := HQ.out; exact ⟨q0 + q, by rw [e, World.drewN_drewN]⟩), k.drewN q⟩
      case measure => simp [intOf]; omega
    · obtain rfl : j = N := by omega
      go_wp2
      go_ret
      refine ⟨?_, HQ.out⟩
      rw [HSe.out]
      rfl
theorem filled_any {k : Nat} {n : Tr k} (h : IsN w F ρ n) (hw : Wf n) (hs : Sized (its n)) : Calls Tryz.prog 123 #[Pp (adr n)] w fun e w' => e = .returned (.int .i64 ((fil n : Nat) : Int)) ∧ ∃ q, w' = w.drewN q := by
  cases k with
  | zero => exact filled_lf h (by have h1 := len_le_sum n.2; have h2 : (n.2.map isz).sum ≤ 236 := hw.2; omega) hs
  | succ k => exact filled_br h (by have := hw.2.1; omega)
end
end Go.Proofs.YtgpbhlfdlkemjaaGreat
