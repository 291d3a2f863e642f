import Derived.Laws.IdiomStrings
import Derived.Test.YtgpbhlfdlkemjaaGreatQ33
/-
  Open of a root that is none: a Tree without keys.
-/
namespace Go.Proofs.YtgpbhlfdlkemjaaGreat
open Go.RowKit
set_option linter.unusedVariables false

section
variable {w : World}
set_option maxRecDepth 100000 in
set_option maxHeartbeats 1000000 in
theorem index_any {v : Value} {l : List Nat} (hr : ReadsI w v l) (hl : l.length ≤ 1000000) (y : Nat) (hy : y ≤ 1000000) (hlb : ∀ x ∈ l, x ≤ 1000000) : Calls Tryz.prog 100 #[v, .int .i64 (y : Int)] w fun e w' => (∃ i : Int, e = .returned (.int .i64 i) ∧ ((i = -1 ∧ y ∉ l) ∨ (0 ≤ i ∧ y ∈ l))) ∧ w = w' := by
  obtain ⟨a, c, rfl, h1, h2⟩ := hr.form
  have HR := Hid.mk hr
  have HB := Hid.mk hlb
  obtain ⟨N, hN⟩ : ∃ N, Hid (l.length = N) := ⟨_, rfl⟩
  rw [hN.out] at hl HR h1
  clear hr hlb
  rw [hN.out]
  go_enter Tryz.func100, Tryz.ntmps100
  go_wp2_with fail
  go_loopw [8] (fun i wr => ∃ j : Nat, i = .int .i64 (j : Int) ∧ j ≤ N ∧ Hid (y ∉ l.take j) ∧ w = wr) (fun i _ => N - (intOf i).toNat)
  case atStart => exact ⟨0, rfl, by omega, Hid.mk (by simp), rfl⟩
  case round =>
    obtain ⟨j, rfl, hj, hA, rfl⟩ := hrel
    by_cases hlt : j < N
    · obtain ⟨x, hx⟩ : ∃ x, l[j]? = some x := ⟨_, List.getElem?_eq_getElem (by have := hN.out; omega)⟩
      obtain ⟨b, o, c', e, hcell⟩ := HR.out.at j x hx
      injection e with e eN e2
      subst e e2
      clear eN
      have hxb := HB.out x (List.mem_of_getElem? hx)
      by_cases hyx : y = x
      · subst hyx
        have HF : Hid (y ∈ l) := Hid.mk (List.mem_of_getElem? hx)
        clear hx hA
        go_wp2
        go_ret
        exact ⟨⟨_, rfl, .inr ⟨by omega, HF.out⟩⟩, rfl⟩
      · have HA2 : Hid (y ∉ l.take (j + 1)) := Hid.mk (by
          rw [tsnoc hx]
          intro hm
          rcases List.mem_append.1 hm with hm | hm
          · exact hA.out hm
          · simp at hm; exact hyx hm)
        have hne : ¬ (y : Int) = (x : Int) := by omega
        clear hx hA
        go_wp2
        go_roundw
        case rel => exact ⟨j + 1, by go_num, by omega, HA2, trivial⟩
        case measure => simp [intOf]; omega
    · obtain rfl : j = N := by omega
      have HF : Hid (y ∉ l) := Hid.mk (by have h := hA.out; rwa [List.take_of_length_le (by have := hN.out; omega)] at h)
      clear hA
      go_wp2
      go_ret
      exact ⟨⟨-1, rfl, .inl ⟨rfl, HF.out⟩⟩, rfl⟩
set_option maxRecDepth 100000 in
set_option maxHeartbeats 1000000 in
theorem contains_any {v : Value} {l : List Nat} (hr : ReadsI w v l) (hl : l.length ≤ 1000000) (y : Nat) (hy : y ≤ 1000000) (hlb : ∀ x ∈ l, x ≤ 1000000) : Calls Tryz.prog 66 #[v, .int .i64 (y : Int)] w fun e w' => e = .returned (.bool (decide (y ∈ l))) ∧ w = w' := by
  have h : Calls Tryz.prog 100 #[v, .int .i64 (y : Int)] w fun e w' => (∃ i : Int, e = .returned (.int .i64 i) ∧ decide (0 ≤ i) = decide (y ∈ l)) ∧ w = w' := (index_any hr hl y hy hlb).mono (by
    rintro e w' ⟨⟨i, rfl, ⟨rfl, h1⟩ | ⟨h0, h1⟩⟩, rfl⟩
    · exact ⟨⟨-1, rfl, by rw [decide_eq_false h1]; rfl⟩, rfl⟩
    · exact ⟨⟨i, rfl, by rw [decide_eq_true h1, decide_eq_true h0]⟩, rfl⟩)
  clear hr hl hlb
  generalize decide (y ∈ l) = bb at *
  go_enter Tryz.func66, Tryz.ntmps66
  go_wp2_with fail
  refine h.mono ?_
  rintro e w' ⟨⟨i, rfl, hi⟩, rfl⟩
  clear h
  go_wp2
  go_ret
  exact ⟨rfl, rfl⟩
end
section
variable {w0 w : World} {q p : Nat} {s : St} {fr ct : Nat} {L : List Ent} {fl : List Nat} {X : Nat → Prop}
set_option maxRecDepth 100000 in
set_option maxHeartbeats 1000000 in
theorem forTrees_new (h : SyP w0 w q p s fr ct [] fl X) (hfr : 1 ≤ fr) : Calls Tryz.prog 38 #[Pp p] w fun e w' => e = .returned (.bool true) ∧ Kept [] w w' := by
  have hfree := psy_free h
  have HSY := Hid.mk h
  have har := Hid.mk (And.intro h.ok.area h.ok.nb)
  clear h
  go_enter Tryz.func38, Tryz.ntmps38
  go_wp2_with fail
  refine hfree.mono ?_
  rintro e w1 ⟨v1, ns, rfl, ho1, hr1, k1, hf1⟩
  have hnm := psy_names (HSY.out.kept k1)
  obtain ⟨a1, c1, rfl, g1, g2⟩ := ho1.form
  have HO1 := Hid.mk (And.intro ho1 hr1)
  have HK1 := Hid.mk k1
  clear hfree ho1 hr1 k1 hf1
  go_wp2_with fail
  refine hnm.mono ?_
  rintro e w2 ⟨v2, ns2, rfl, ho2, hr2, k2, hf2⟩
  have e2 : ns2 = [] := by have := hr2.1; simpa using this
  subst e2
  obtain ⟨a2, c2, rfl, -⟩ := ho2.form
  rw [List.length_nil]
  have HK2 := Hid.mk (HK1.out.trans k2 (by simp))
  have hok := HSY.out.ok
  have hlen : ns.length = ct := by
    have := hok.length
    have h2 := HO1.out.2.1.length_eq
    simp [bls] at this
    omega
  have h1 := hok.one
  have hmem : ∀ x ∈ ns, fr ≤ x ∧ x < fr + ct := fun x hx => hok.mem (List.mem_append_right _ (HO1.out.2.1.mem_iff.1 hx))
  have ho := HO1.out.1.kept k2 (by simp)
  have hct := contains_any ho.reads (by have := har.out; omega) 0 (by omega) (fun x hx => by have := hmem x hx; have := har.out; omega)
  have hd : decide (0 ∈ ns) = false := decide_eq_false fun hm => by have := hmem 0 hm; omega
  rw [hd] at hct
  clear hnm ho2 hr2 k2 hf2 HO1 HSY har hok hd ho HK1 hmem
  have hn1 : 0 < ns.length := by omega
  have hn2 : (0 : Int) < (ns.length : Int) := by omega
  clear hlen h1
  generalize ns.length = N at *
  go_wp2_with fail
  go_loopw [3, 11] (fun s i w' => s = .slice a1 N c1 ∧ i = .int .i64 0 ∧ w2 = w') (fun _ _ _ => 0)
  case atStart => exact ⟨rfl, rfl, rfl⟩
  case round =>
    obtain ⟨rfl, rfl, rfl⟩ := hrel
    go_wp2_with fail
    refine hct.mono ?_
    rintro e w' ⟨rfl, rfl⟩
    clear hct
    go_wp2
    go_ret
    exact ⟨rfl, HK2.out⟩
set_option maxRecDepth 100000 in
set_option maxHeartbeats 1000000 in
theorem load_zero (f : Value) (w : World) : Calls Tryz.prog 41 #[f, .int .i64 0] w fun e w' => e = .returned (.tuple #[.pointer none, .int .i64 0]) ∧ w = w' := by
  go_enter Tryz.func41, Tryz.ntmps41
  go_wp2
  refine bodyPost_ret (by simp [results, Tryz.results41, go_sem]; try rfl) rfl ?_
  exact ⟨rfl, rfl⟩
set_option maxRecDepth 100000 in
set_option maxHeartbeats 1000000 in
theorem open_walk {R : World → Prop} (HC : Calls Tryz.prog 38 #[Pp p] (w.alloc (.cells #[Pp p] 26)) fun e w1 => e = .returned (.bool true) ∧ w1.cell? ⟨w.heap.size, 0, none⟩ = some (Pp p) ∧ R w1) :
    Calls Tryz.prog 13 #[Pp p, .int .i64 0] w fun e w' => ∃ w1, e = .returned (.tuple #[Pp w1.heap.size, .int .i64 0]) ∧ R w1 ∧ w' = w1.alloc (.cells #[Pp p, .pointer none, .slice none 0 0] 81) := by
  have c0 : (w.alloc (.cells #[Pp p] 26)).cell? ⟨w.heap.size, 0, none⟩ = some (Pp p) := by unfold World.cell?; rw [heap_alloc_new]; rfl
  go_enter Tryz.func13, Tryz.ntmps13
  go_wp2_with fail
  refine HC.mono ?_
  rintro e w1 ⟨rfl, c1, hR⟩
  have HR := Hid.mk hR
  have hl := fun f => load_zero f w1
  clear HC hR c0
  go_wp2_with fail
  refine (hl _).mono ?_
  rintro e w2 ⟨rfl, rfl⟩
  clear hl
  go_wp2
  refine bodyPost_ret (by simp [results, Tryz.results13, go_sem]; try rfl) rfl ?_
  exact ⟨_, rfl, HR.out, rfl⟩
/-- Open of the root 0. -/
theorem open_new (h : SyP w0 w q p s fr ct [] fl X) (hfr : 1 ≤ fr) (hlt : ∀ b, X b → b < w.heap.size) (hge : ∀ b, X b → w0.heap.size ≤ b) : Calls Tryz.prog 13 #[Pp p, .int .i64 0] w fun e w' => ∃ tb, e = .returned (.tuple #[Pp tb, .int .i64 0]) ∧ w.heap.size ≤ tb ∧ Tre w0 w' tb p q X (fun _ => (0, 0)) none [] s fr ct [] fl ∧ Kept [] w w' := by
  have k0 : Kept [] w (w.alloc (.cells #[Pp p] 26)) := (Kept.refl [] w).alloc _
  have hb0 : (w.alloc (.cells #[Pp p] 26)).heap[w.heap.size]? = some (.cells #[Pp p] 26 (0, 0)) := heap_alloc_new w _
  refine (open_walk (R := fun w1 => Kept [] w w1) ((forTrees_new (h.kept k0) hfr).mono ?_)).mono ?_
  · rintro e w1 ⟨rfl, k1⟩
    refine ⟨rfl, ?_, k0.trans k1 (by simp)⟩
    have := k1.keeps hb0 (by simp)
    simp [World.cell?, this]
  · rintro e w' ⟨w1, rfl, k1, rfl⟩
    have ka : Kept [] w1 (w1.alloc (.cells #[Pp p, .pointer none, .slice none 0 0] 81)) := (Kept.refl [] w1).alloc _
    have kw := k1.trans ka (by simp)
    have hz := k1.size
    refine ⟨w1.heap.size, rfl, hz, ⟨fun _ => False, .slice none 0 0, ?_⟩, kw⟩
    refine ⟨heap_alloc_new w1 _, OwnsI.nil _, trivial, List.Pairwise.nil, fun i hi => by simp [itsT] at hi, ?_, fun b hb => ?_, fun b hb => ?_, fun b hb => hb.elim, ⟨fun hV => by have := hlt _ hV; omega, by simp [Value.ownBlock], by simp [Value.ownBlock]⟩, fun _ _ => rfl, fun _ => ⟨by simp, by simp⟩, by simp, (fun n e => by cases e), hfr⟩
    · refine (h.more (Y := fun b => w.heap.size ≤ b) kw (fun y hy => hy)).less fun b hb => ?_
      rcases hb with hb | hb | hb | hb
      · exact hb.elim
      · exact .inl (by omega)
      · simp [Value.ownBlock] at hb
      · exact .inr hb
    · rcases hb with hb | hb | hb | hb
      · exact hb.elim
      · subst hb; simp
      · simp [Value.ownBlock] at hb
      · exact Nat.lt_of_lt_of_le (hlt b hb) kw.size
    · rcases hb with hb | hb | hb | hb
      · exact hb.elim
      · have := h.k.size; omega
      · simp [Value.ownBlock] at hb
      · exact hge b hb
end
end Go.Proofs.YtgpbhlfdlkemjaaGreat
/-
  The calls of a Tree, in the words of a table.
-/
namespace Go.Proofs.YtgpbhlfdlkemjaaGreat
open Go.RowKit
set_option linter.unusedVariables false

/-- What Get tells of a table. -/
def Got (T : List KV) (key val : List UInt8) (b : Bool) : Prop := (b = true ∧ (key, val) ∈ T) ∨ (b = false ∧ val = [] ∧ ∀ x ∈ T, x.1 ≠ key)
theorem Got.one {T : List KV} (hu : UpK T) {key v v' : List UInt8} {b b' : Bool} (h : Got T key v b) (h' : Got T key v' b') : v = v' ∧ b = b' := by
  rcases h with ⟨rfl, h1⟩ | ⟨rfl, rfl, h1⟩ <;> rcases h' with ⟨rfl, h2⟩ | ⟨rfl, rfl, h2⟩
  · have hn : T.Pairwise fun a b => a.1 ≠ b.1 := by
      have h2 : T.Pairwise fun a b => a.1 < b.1 := hu
      refine h2.imp ?_
      intro a b h e
      rw [e] at h
      exact klt_irrefl b.1 h
    have := nodup_key (f := Prod.fst) (List.pairwise_map.2 hn) _ h1 _ h2 rfl
    exact ⟨congrArg Prod.snd this, rfl⟩
  · exact absurd rfl (h2 _ h1)
  · exact absurd rfl (h1 _ h2)
  · exact ⟨rfl, rfl⟩
/-- The keys of a range. -/
def keysIn (fr to : List UInt8) (T : List KV) : List (List UInt8) := (T.filter fun x => !decide (x.1 < fr) && (decide (to = []) || decide (x.1 < to))).map Prod.fst
theorem inRange_keys (fr to : List UInt8) (l : List Itm) : (inRange fr to l).map Itm.key = keysIn fr to (l.map kv) := by
  unfold inRange fromI keysIn
  rw [List.filter_filter, List.filter_map, List.map_map]
  have e : (Prod.fst ∘ kv : Itm → List UInt8) = Itm.key := rfl
  rw [e]
  congr 1
  refine List.filter_congr fun i _ => ?_
  show ((decide (to = []) || decide (i.key < to)) && !decide (i.key < fr)) = (!decide (i.key < fr) && (decide (to = []) || decide (i.key < to)))
  exact Bool.and_comm _ _
section
variable {w0 w w' : World} {tb p q : Nat} {V V' : Nat → Prop} {ρ : Rho} {t : AT} {old : List Nat} {s : St} {fr ct : Nat} {L : List Ent} {fl : List Nat}
/-- The caller's own memory has turned. -/
theorem Tre.turn (h : Tre w0 w tb p q V ρ t old s fr ct L fl) {S : List Nat} (k : Kept S w w') (hS : ∀ x ∈ S, V x) (hV : ∀ x, V' x → V x ∨ w.heap.size ≤ x) (hVl : ∀ x, V' x → x < w'.heap.size) : Tre w0 w' tb p q V' ρ t old s fr ct L fl := by
  obtain ⟨T, vo, h⟩ := h
  have hz := k.size
  refine ⟨T, vo, k.keeps h.box (fun hm => h.tv.1 (hS _ hm)), h.own.kept k (fun g hg hm => h.tv.2.2 g hg (hS _ hm)), h.tree.kept k (fun x hx hT => (h.tt x hT).2.2 (hS x hx)), h.up, h.sz, ?_, fun b hb => ?_, fun b hb => ?_, fun b hb => ⟨(h.tt b hb).1, (h.tt b hb).2.1, fun hv => ?_⟩, ⟨fun hv => ?_, h.tv.2.1, fun b hb hv => ?_⟩, h.blank.kept k, h.ok, h.olds, h.root, h.fr1⟩
  · have s1 := SyP.more (Y := fun b => w.heap.size ≤ b) h.sy (Kept.refl [] w) (fun y hy => hy)
    have s2 := s1.turn k (fun x hx => .inl (.inr (.inr (.inr (.inr (hS x hx)))))) (fun x hx => h.ge x (.inr (.inr (.inr (hS x hx)))))
    refine s2.less fun b hb => ?_
    rcases hb with hb | hb | hb | hb
    · exact .inr (.inl hb)
    · exact .inr (.inr (.inl hb))
    · exact .inr (.inr (.inr (.inl hb)))
    · rcases hV b hb with h1 | h1
      · exact .inr (.inr (.inr (.inr h1)))
      · exact .inl h1
  · rcases hb with hb | hb | hb | hb
    · exact Nat.lt_of_lt_of_le (h.lt b (.inl hb)) hz
    · exact Nat.lt_of_lt_of_le (h.lt b (.inr (.inl hb))) hz
    · exact Nat.lt_of_lt_of_le (h.lt b (.inr (.inr (.inl hb)))) hz
    · exact hVl b hb
  · rcases hb with hb | hb | hb | hb
    · exact h.ge b (.inl hb)
    · exact h.ge b (.inr (.inl hb))
    · exact h.ge b (.inr (.inr (.inl hb)))
    · rcases hV b hb with h1 | h1
      · exact h.ge b (.inr (.inr (.inr h1)))
      · exact Nat.le_trans h.sy.k.size h1
  · rcases hV b hv with h1 | h1
    · exact (h.tt b hb).2.2 h1
    · have := h.lt b (.inl hb); omega
  · rcases hV tb hv with h1 | h1
    · exact h.tv.1 h1
    · have := h.lt tb (.inr (.inl rfl)); omega
  · rcases hV b hv with h1 | h1
    · exact h.tv.2.2 b hb h1
    · have := h.lt b (.inr (.inr (.inl hb))); omega
theorem Tre.up (h : Tre w0 w tb p q V ρ t old s fr ct L fl) : UpK ((itsT t).map kv) := by
  obtain ⟨T, vo, h⟩ := h
  exact up_kv h.up
theorem tre_settle (h : Tre w0 w tb p q V ρ t old s fr ct L fl) (hol : old.length ≤ 1000000) : Calls Tryz.prog 18 #[Pp tb] w fun e w' => e = .returned (.tuple #[]) ∧ ∃ L' fl', Tre w0 w' tb p q V ρ t [] s fr ct L' fl' ∧ KP V w w' := by
  obtain ⟨T, vo, h⟩ := h
  refine (settle_all h.box h.own h.tv.2.1 (Hid.mk h.sy) (Hid.mk h.lt) (Hid.mk (.inr (.inl rfl))) (Hid.mk fun g hg => .inr (.inr (.inl hg))) (Hid.mk h.olds) hol (Hid.mk (h.ge tb (.inr (.inl rfl))))).mono ?_
  rintro e w' ⟨rfl, hb, fl', hs, w1, ⟨S, k1, hS⟩, k2⟩
  have hT : IsT w' T ρ t := (h.tree.kept k1 (fun x hx hTx => hS x (.inl hTx) hx)).kept k2 (fun x hx hTx => by simp at hx; exact (h.tt x hTx).1 hx)
  have hz : w.heap.size ≤ w'.heap.size := Nat.le_trans k1.size k2.size
  refine ⟨rfl, _, fl', ⟨T, .slice none 0 0, hb, OwnsI.nil _, hT, h.up, h.sz, hs.less fun b hb => ?_, fun b hb => ?_, fun b hb => ?_, fun b hb => ⟨(h.tt b hb).1, by simp [Value.ownBlock], (h.tt b hb).2.2⟩, ⟨h.tv.1, by simp [Value.ownBlock], by simp [Value.ownBlock]⟩, fun b hb => h.blank b (by omega), h.ok, by simp, h.root, h.fr1⟩, (show KP V w w1 from ⟨S, k1, fun x hx => hS x (.inr (.inr (.inr hx)))⟩).trans ⟨[tb], k2, fun x hx hm => h.tv.1 (by simp at hm; rw [← hm]; exact hx)⟩⟩
  · rcases hb with hb | hb | hb | hb
    · exact .inl hb
    · exact .inr (.inl hb)
    · simp [Value.ownBlock] at hb
    · exact .inr (.inr (.inr hb))
  · rcases hb with hb | hb | hb | hb
    · exact Nat.lt_of_lt_of_le (h.lt b (.inl hb)) hz
    · exact Nat.lt_of_lt_of_le (h.lt b (.inr (.inl hb))) hz
    · simp [Value.ownBlock] at hb
    · exact Nat.lt_of_lt_of_le (h.lt b (.inr (.inr (.inr hb)))) hz
  · rcases hb with hb | hb | hb | hb
    · exact h.ge b (.inl hb)
    · exact h.ge b (.inr (.inl hb))
    · simp [Value.ownBlock] at hb
    · exact h.ge b (.inr (.inr (.inr hb)))
theorem tre_get (h : Tre w0 w tb p q V ρ t old s fr ct L fl) (key : List UInt8) : Calls Tryz.prog 22 #[Pp tb, Sv key] w fun e w' => ∃ v val b, e = .returned (.tuple #[v, .bool b]) ∧ Reads w' v val ∧ Got ((itsT t).map kv) key val b ∧ Kept [] w w' := by
  obtain ⟨T, vo, h⟩ := h
  have c1 : w.cell? ⟨tb, 1, none⟩ = some (ptrT t) := by simp only [World.cell?, h.box]; rfl
  by_cases hex : ∃ i ∈ itsT t, i.key = key
  · obtain ⟨i, hi, rfl⟩ := hex
    have hs := h.sz i hi
    refine (get_yes c1 h.tree h.up i hi (by omega)).mono ?_
    rintro e w' ⟨v, rfl, ho, k, hf⟩
    exact ⟨v, i.val, true, rfl, ho.reads, .inl ⟨rfl, List.mem_map.2 ⟨i, hi, rfl⟩⟩, k⟩
  · refine (get_no c1 h.tree h.up key (fun i hi hk => hex ⟨i, hi, hk⟩)).mono ?_
    rintro e w' ⟨rfl, n, rfl⟩
    refine ⟨_, [], false, rfl, ⟨none, 0, rfl, by simp, by simp, by simp, by simp⟩, .inr ⟨rfl, rfl, fun x hx e => ?_⟩, (Kept.refl [] w).drewN n⟩
    obtain ⟨i, hi, rfl⟩ := List.mem_map.1 hx
    exact hex ⟨i, hi, e⟩
theorem tre_keys (h : Tre w0 w tb p q V ρ t old s fr ct L fl) (hl : (itsT t).length ≤ 100000) (f to : List UInt8) : Calls Tryz.prog 20 #[Pp tb, Sv f, Sv to] w fun e w' => ∃ v, e = .returned v ∧ OwnsR 9 1 w' v (CS (keysIn f to ((itsT t).map kv))) ∧ Kept [] w w' ∧ Fresh w v := by
  obtain ⟨T, vo, h⟩ := h
  have c1 : w.cell? ⟨tb, 1, none⟩ = some (ptrT t) := by simp only [World.cell?, h.box]; rfl
  have := keys_any c1 h.tree h.up hl f to
  rw [inRange_keys] at this
  exact this
theorem tre_root (h : Tre w0 w tb p q V ρ t old s fr ct L fl) : Calls Tryz.prog 25 #[Pp tb] w fun e w' => e = .returned (.int .i64 (rootN ρ t : Int)) ∧ w = w' := by
  obtain ⟨T, vo, h⟩ := h
  have c1 : w.cell? ⟨tb, 1, none⟩ = some (ptrT t) := by simp only [World.cell?, h.box]; rfl
  exact root_any c1 h.tree
theorem Tre.rootPos (h : Tre w0 w tb p q V ρ t old s fr ct L fl) (ht : t ≠ none) : rootN ρ t ≠ 0 := by
  obtain ⟨T, vo, h⟩ := h
  cases t with
  | none => exact absurd rfl ht
  | some n => exact h.root n rfl
end
end Go.Proofs.YtgpbhlfdlkemjaaGreat
/-
  The document's table in memory: place, Get, Keys.
-/
namespace Go.Proofs.YtgpbhlfdlkemjaaGreat
open Go.RowKit
set_option linter.unusedVariables false

/-- '[]byte(s)'. -/
theorem bytes_of48 (w : World) (l : List UInt8) (hl : l.length ≤ maxLen) : ∃ cap w', (convert 9 48 (.string ⟨l.toArray⟩)).run Tryz.prog w = .ok (.slice (some ⟨w.heap.size, 0, none⟩) l.length cap) w' ∧ Reads w' (.slice (some ⟨w.heap.size, 0, none⟩) l.length cap) l ∧ Kept [] w w' := by
  have hsz : (⟨l.toArray⟩ : ByteArray).size = l.length := by simp [ByteArray.size]
  have hrun := run_bytes_of_string (P := Tryz.prog) w 9 48 5 ⟨l.toArray⟩ Tryz.underlying9 Tryz.underlying48 Tryz.underlying5
  rw [hsz] at hrun
  refine ⟨_, _, hrun, ⟨_, _, rfl, grownCap_ge w _ _ _, grownCap_le_maxLen w _ _ _ hl, by simp, fun _ => ⟨w.heap.size, 0, rfl, fun j u hu => ?_⟩⟩, ((Kept.refl [] w).drew).alloc _⟩
  rw [Nat.zero_add, cell_of_row _ w.heap.size j _ 5 _ (heap_alloc_new w.drew _)]
  have hj : j < l.length := (List.getElem?_eq_some_iff.1 hu).1
  unfold bytesRow
  rw [Array.getElem?_append_left (by simpa using hj)]
  simp [hu, B8]
/-- Pairs as rows. -/
def CT (T : List KV) : List (List Value) := T.map fun x => [Sv x.1, Sv x.2]
theorem CT_length (T : List KV) : (CT T).length = T.length := by simp [CT]
theorem CT_append (a b : List KV) : CT (a ++ b) = CT a ++ CT b := by simp [CT]
theorem CT_wide (T : List KV) : Wide 2 (CT T) := fun r hr => by
  obtain ⟨x, _, rfl⟩ := List.mem_map.1 hr
  exact ⟨rfl, fun u hu => by simp at hu; rcases hu with rfl | rfl <;> rfl⟩
theorem rt36 : RowT 36 106 2 32 (.agg #[.string ⟨#[]⟩, .string ⟨#[]⟩]) := ⟨Tryz.underlying36, by kernel_rfl, rfl, by omega, by omega⟩
/-- A table in memory. -/
structure IsTab (w : World) (db : Nat) (v : Value) (T : List KV) : Prop where
  box : w.heap[db]? = some (.cells #[v] 38 (0, 0))
  row : ReadsR 2 w v (CT T)
  apart : v.ownBlock ≠ some db
theorem IsTab.kept {S : List Nat} {w w' : World} {db : Nat} {v : Value} {T : List KV} (h : IsTab w db v T) (k : Kept S w w') (hb : db ∉ S) (hv : ∀ g, v.ownBlock = some g → g ∉ S) : IsTab w' db v T := ⟨k.keeps h.box hb, h.row.kept k hv, h.apart⟩
theorem IsTab.form {w : World} {db : Nat} {v : Value} {T : List KV} (h : IsTab w db v T) : ∃ a c, v = .slice a T.length c ∧ T.length ≤ c ∧ c ≤ 9223372036854775807 := by
  have := ReadsR.form h.row
  rwa [CT_length] at this
theorem ctAt {w : World} {a : Option Addr} {n c : Nat} {T : List KV} (h : ReadsR 2 w (.slice a n c) (CT T)) {j : Nat} {x : KV} (hx : T[j]? = some x) : ∃ b o, a = some ⟨b, o, none⟩ ∧ w.cell? ⟨b, o + j * 2, none⟩ = some (Sv x.1) ∧ w.cell? ⟨b, o + j * 2 + 1, none⟩ = some (Sv x.2) := by
  obtain ⟨b, o, c', e, hc⟩ := ReadsR.at h j [Sv x.1, Sv x.2] (by simp [CT, hx])
  injection e with e _ _
  have h0 := hc 0 _ rfl
  have h1 := hc 1 _ rfl
  rw [Nat.add_zero] at h0
  exact ⟨b, o, e, h0, h1⟩
/-- Where a key is, or would be. -/
def plT (T : List KV) (key : List UInt8) : Nat := kpl (T.map Prod.fst) key
theorem upFst {T : List KV} (h : UpK T) : (T.map Prod.fst).Pairwise (· < ·) := List.pairwise_map.2 h
theorem plT_le {T : List KV} (h : UpK T) (key : List UInt8) : plT T key ≤ T.length := by
  have := (place_kpl key (upFst h)).1
  rwa [List.length_map] at this
theorem plT_lt {T : List KV} (h : UpK T) (key : List UInt8) {j : Nat} {x : KV} (hx : T[j]? = some x) : x.1 < key ↔ j < plT T key := (place_kpl key (upFst h)).2 j x.1 (by rw [List.getElem?_map, hx]; rfl)
section
variable {w : World}
set_option maxRecDepth 100000 in
set_option maxHeartbeats 1000000 in
theorem tabPlace_any {db : Nat} {v : Value} {T : List KV} (h : IsTab w db v T) (hu : UpK T) (hl : T.length ≤ 100000) (key : List UInt8) : Calls Tryz.prog 58 #[Pp db, Sv key] w fun e w' => e = .returned (.int .i64 (plT T key : Int)) ∧ w = w' := by
  obtain ⟨a, c, rfl, h1, h2⟩ := h.form
  have c0 : w.cell? ⟨db, 0, none⟩ = some (.slice a T.length c) := by simp only [World.cell?, h.box]; rfl
  have HP : Hid (∀ j x, T[j]? = some x → (x.1 < key ↔ j < plT T key)) := Hid.mk fun j x hx => plT_lt hu key hx
  have hpl := plT_le hu key
  have HR := Hid.mk h.row
  obtain ⟨N, hN⟩ : ∃ N, Hid (T.length = N) := ⟨_, rfl⟩
  rw [hN.out] at c0 HR hpl hl
  obtain ⟨P, hP⟩ : ∃ P, Hid (plT T key = P) := ⟨_, rfl⟩
  rw [hP.out] at HP hpl ⊢
  clear h h1 h2 hu
  go_enter Tryz.func58, Tryz.ntmps58
  go_wp2_with fail
  go_loopw [5] (fun i wr => ∃ j : Nat, i = .int .i64 (j : Int) ∧ j ≤ P ∧ w = wr) (fun i _ => P - (intOf i).toNat)
  case atStart => exact ⟨0, rfl, by omega, rfl⟩
  case round =>
    obtain ⟨j, rfl, hj, rfl⟩ := hrel
    by_cases hlt : j < N
    · obtain ⟨x, hx⟩ : ∃ x, T[j]? = some x := ⟨_, List.getElem?_eq_getElem (by have := hN.out; omega)⟩
      obtain ⟨b, o, rfl, d0, d1⟩ := ctAt HR.out hx
      have hc := HP.out j x hx
      by_cases hjp : j < P
      · have hless : Op.bytesLess x.1 key = true := by rw [bytesLess_eq]; simpa using hc.2 hjp
        clear hx hc
        generalize x.1 = xk at *
        generalize x.2 = xv at *
        go_wp2
        go_roundw
        case rel => exact ⟨j + 1, by go_num, by omega, trivial⟩
        case measure => simp [intOf]; omega
      · obtain rfl : j = P := by omega
        have hless : Op.bytesLess x.1 key = false := by rw [bytesLess_eq]; simpa using fun h => Nat.lt_irrefl _ (hc.1 h)
        clear hx hc
        generalize x.1 = xk at *
        generalize x.2 = xv at *
        go_wp2
        go_ret
        exact ⟨rfl, rfl⟩
    · obtain rfl : j = N := by omega
      obtain rfl : j = P := by omega
      go_wp2
      go_ret
      exact ⟨rfl, rfl⟩
set_option maxRecDepth 100000 in
set_option maxHeartbeats 1000000 in
theorem tabGet_any {db : Nat} {v : Value} {T : List KV} (h : IsTab w db v T) (hu : UpK T) (hl : T.length ≤ 100000) (hv : ∀ x ∈ T, x.2.length ≤ 20000) (key : List UInt8) : Calls Tryz.prog 23 #[Pp db, Sv key] w fun e w' => ∃ v' val b, e = .returned (.tuple #[v', .bool b]) ∧ Reads w' v' val ∧ Got T key val b ∧ Kept [] w w' := by
  have hp := tabPlace_any h hu hl key
  obtain ⟨a, c, rfl, h1, h2⟩ := h.form
  have c0 : w.cell? ⟨db, 0, none⟩ = some (.slice a T.length c) := by simp only [World.cell?, h.box]; rfl
  have HP : Hid (∀ j x, T[j]? = some x → (x.1 < key ↔ j < plT T key)) := Hid.mk fun j x hx => plT_lt hu key hx
  have hpl := plT_le hu key
  have HR := Hid.mk h.row
  have hNo : Hid ((∀ x, T[plT T key]? = some x → x.1 ≠ key) → ∀ x ∈ T, x.1 ≠ key) := Hid.mk fun hn x hx e => by
    obtain ⟨j, hj⟩ := List.getElem?_of_mem hx
    have h3 := HP.out j x hj
    rcases Nat.lt_trichotomy j (plT T key) with hl | hl | hl
    · have := h3.2 hl; rw [e] at this; exact klt_irrefl _ this
    · rw [← hl] at hn; exact hn x hj e
    · have hl2 : plT T key < T.length := by have := (List.getElem?_eq_some_iff.1 hj).1; omega
      obtain ⟨y, hy⟩ : ∃ y, T[plT T key]? = some y := ⟨_, List.getElem?_eq_getElem hl2⟩
      have h4 := List.pairwise_iff_getElem.1 hu (plT T key) j hl2 (List.getElem?_eq_some_iff.1 hj).1 hl
      rw [(List.getElem?_eq_some_iff.1 hy).2, (List.getElem?_eq_some_iff.1 hj).2, e] at h4
      have h5 := (HP.out _ y hy).1 h4
      omega
  obtain ⟨N, hN⟩ : ∃ N, Hid (T.length = N) := ⟨_, rfl⟩
  rw [hN.out] at c0 HR hpl hl
  obtain ⟨P, hP⟩ : ∃ P, Hid (plT T key = P) := ⟨_, rfl⟩
  rw [hP.out] at hp hpl hNo
  clear h h1 h2 hu HP
  by_cases hlt : P < N
  · obtain ⟨x, hx⟩ : ∃ x, T[P]? = some x := ⟨_, List.getElem?_eq_getElem (by have := hN.out; omega)⟩
    obtain ⟨b, o, rfl, d0, d1⟩ := ctAt HR.out hx
    by_cases hk : x.1 = key
    · obtain ⟨cap, w2, hrun, hr2, k2⟩ := bytes_of48 w x.2 (by have := hv x (List.mem_of_getElem? hx); unfold maxLen; omega)
      have HF : Hid (Reads w2 (.slice (some ⟨w.heap.size, 0, none⟩) x.2.length cap) x.2 ∧ Got T key x.2 true ∧ Kept [] w w2) := Hid.mk ⟨hr2, .inl ⟨rfl, by rw [← hk]; exact List.mem_of_getElem? hx⟩, k2⟩
      rw [hk] at d0
      clear hx hk hNo hr2 k2 hv
      generalize x.2 = xv at *
      go_enter Tryz.func23, Tryz.ntmps23
      go_wp2_with fail
      refine hp.mono ?_
      rintro e w1 ⟨rfl, rfl⟩
      clear hp
      go_wp2
      go_ret2
      exact ⟨_, xv, true, rfl, HF.out⟩
    · have HF : Hid (∀ x ∈ T, x.1 ≠ key) := Hid.mk (hNo.out fun y hy => by rw [hx] at hy; injection hy with hy; rw [← hy]; exact hk)
      have hne := str_ne x.1 key hk
      have hne3 : (x.1 == key) = false := by simpa using hk
      clear hx hk hNo hv
      generalize x.1 = xk at *
      generalize x.2 = xv at *
      go_enter Tryz.func23, Tryz.ntmps23
      go_wp2_with fail
      refine hp.mono ?_
      rintro e w1 ⟨rfl, rfl⟩
      clear hp
      go_wp2
      go_ret2
      exact ⟨_, [], false, rfl, ⟨none, 0, rfl, by simp, by simp, by simp, by simp⟩, .inr ⟨rfl, rfl, HF.out⟩, Kept.refl [] w⟩
  · have HF : Hid (∀ x ∈ T, x.1 ≠ key) := Hid.mk (hNo.out fun y hy => by have := (List.getElem?_eq_some_iff.1 hy).1; have := hN.out; omega)
    obtain rfl : P = N := by omega
    clear hNo hv
    go_enter Tryz.func23, Tryz.ntmps23
    go_wp2_with fail
    refine hp.mono ?_
    rintro e w1 ⟨rfl, rfl⟩
    clear hp
    go_wp2
    go_ret2
    exact ⟨_, [], false, rfl, ⟨none, 0, rfl, by simp, by simp, by simp, by simp⟩, .inr ⟨rfl, rfl, HF.out⟩, Kept.refl [] w⟩
end
end Go.Proofs.YtgpbhlfdlkemjaaGreat
/-
  The document's Keys.
-/
namespace Go.Proofs.YtgpbhlfdlkemjaaGreat
open Go.RowKit
set_option linter.unusedVariables false

/-- Is the key in the range? -/
def inR (fr to : List UInt8) (k : List UInt8) : Bool := !decide (k < fr) && (decide (to = []) || decide (k < to))
theorem keysIn_def (fr to : List UInt8) (T : List KV) : keysIn fr to T = (T.filter fun x => inR fr to x.1).map Prod.fst := rfl
theorem keysIn_snoc {fr to : List UInt8} {T : List KV} {j : Nat} {x : KV} (hx : T[j]? = some x) : keysIn fr to (T.take (j + 1)) = keysIn fr to (T.take j) ++ (if inR fr to x.1 then [x.1] else []) := by
  rw [keysIn_def, keysIn_def, tsnoc hx, List.filter_append, List.map_append]
  congr 1
  cases h : inR fr to x.1 <;> simp [h]
/-- Keys so far. -/
def KAt (w : World) (ks : List (List UInt8)) (wr : World) (v : Value) : Prop := OwnsR 9 1 wr v (CS ks) ∧ Fresh w v ∧ Kept [] w wr
theorem KAt.more {w wr : World} {ks : List (List UInt8)} {v : Value} (h : KAt w ks wr v) (k : List UInt8) (hl : ks.length ≤ 900000) :
    ∃ ad c w2, (Builtin.append_ #[46, 46] 46 #[v, .slice (some ⟨wr.heap.size, 0, none⟩) 1 1]).run Tryz.prog (wr.alloc (.cells #[Sv k] 9)) = .ok (.slice ad (ks.length + 1) c) w2 ∧ KAt w (ks ++ [k]) w2 (.slice ad (ks.length + 1) c) := by
  obtain ⟨ho, hf, hk⟩ := h
  obtain ⟨ad, c, w2, hrun, ho2, k2, hN⟩ := append_rowR rt46 ho [Sv k] rfl (fun u hu => by simp at hu; subst hu; rfl) (by rw [CS_length]; exact hl) 9 (0, 0) 46
  rw [CS_length] at hrun ho2 hN
  refine ⟨ad, c, w2, hrun, by rw [CS_append]; exact ho2, fun g hg => ?_, hk.trans k2 (fun b hb => .inr (hf b (by simpa using hb)))⟩
  rcases hN g hg with h | h
  · exact hf g h
  · exact Nat.le_trans hk.size h
section
variable {w : World}
set_option maxRecDepth 100000 in
set_option maxHeartbeats 2000000 in
theorem tabKeys_any {db : Nat} {v : Value} {T : List KV} (h : IsTab w db v T) (hl : T.length ≤ 100000) (fr to : List UInt8) : Calls Tryz.prog 21 #[Pp db, Sv fr, Sv to] w fun e w' => ∃ v', e = .returned v' ∧ OwnsR 9 1 w' v' (CS (keysIn fr to T)) ∧ Kept [] w w' ∧ Fresh w v' := by
  obtain ⟨a, c, rfl, h1, h2⟩ := h.form
  have HC0 : Hid (∀ W, Kept [] w W → W.cell? ⟨db, 0, none⟩ = some (.slice a T.length c)) := Hid.mk fun W kW => by simp only [World.cell?, kW.keeps h.box (by simp)]; rfl
  have HR : Hid (∀ W, Kept [] w W → ReadsR 2 W (.slice a T.length c) (CT T)) := Hid.mk fun W kW => h.row.kept kW (by simp)
  obtain ⟨N, hN⟩ : ∃ N, Hid (T.length = N) := ⟨_, rfl⟩
  rw [hN.out] at HC0 HR hl
  have c0 := HC0.out w (Kept.refl [] w)
  have HKL : Hid (∀ j, (keysIn fr to (T.take j)).length ≤ 900000) := Hid.mk fun j => by
    rw [keysIn_def, List.length_map]
    have := List.length_filter_le (fun x : KV => inR fr to x.1) (T.take j)
    rw [List.length_take] at this
    have := hN.out
    omega
  clear h h1 h2
  go_enter Tryz.func21, Tryz.ntmps21
  go_wp2_with fail
  go_loopw [7, 14] (fun u i wr => ∃ j : Nat, i = .int .i64 (j : Int) ∧ j ≤ N ∧ Hid (KAt w (keysIn fr to (T.take j)) wr u)) (fun _ i _ => N - (intOf i).toNat)
  case atStart => exact ⟨0, rfl, by omega, Hid.mk ⟨OwnsR.nil _ _ _, fun g hg => by simp [Value.ownBlock] at hg, Kept.refl [] w⟩⟩
  case round =>
    obtain ⟨j, rfl, hj, hA⟩ := hrel
    clear c0
    by_cases hlt : j < N
    · obtain ⟨x, hx⟩ : ∃ x, T[j]? = some x := ⟨_, List.getElem?_eq_getElem (by have := hN.out; omega)⟩
      have kk := hA.out.2.2
      have d := HC0.out wr kk
      obtain ⟨b, o, rfl, d0, d1⟩ := ctAt (HR.out wr kk) hx
      have HSN := Hid.mk (keysIn_snoc (fr := fr) (to := to) hx)
      have HIR : Hid (inR fr to x.1 = (!decide (x.1 < fr) && (decide (to = []) || decide (x.1 < to)))) := Hid.mk rfl
      by_cases hin : inR fr to x.1 = true
      · rw [if_pos hin] at HSN
        obtain ⟨ad, cp, w2, hrun, hn⟩ := hA.out.more x.1 (HKL.out j)
        rw [← HSN.out] at hn
        have HN2 := Hid.mk hn
        rw [HIR.out] at hin
        simp only [Bool.and_eq_true, Bool.not_eq_true', decide_eq_false_iff_not, Bool.or_eq_true, decide_eq_true_eq] at hin
        have hl1 : Op.bytesLess x.1 fr = false := by rw [bytesLess_eq]; simpa using hin.1
        clear hx kk hA HSN HIR hn
        by_cases hto : to = []
        · have hem : to.isEmpty = true := by rw [hto]; rfl
          clear hin hto
          generalize x.1 = xk at *
          generalize x.2 = xv at *
          generalize (keysIn fr to (T.take j)).length = KL at *
          go_wp2_with (at_builtin; refine wpList_append_run 46 _ _ rfl rfl _ _ rfl rfl _ _ hrun ?_)
          go_roundw
          case rel => exact ⟨j + 1, by go_num, by omega, HN2⟩
          case measure => simp [intOf]; omega
        · have hem : to.isEmpty = false := by cases e : to with | nil => exact absurd e hto | cons _ _ => rfl
          have hl2 : Op.bytesLess x.1 to = true := by rw [bytesLess_eq]; simpa using hin.2.resolve_left hto
          clear hin
          generalize x.1 = xk at *
          generalize x.2 = xv at *
          generalize (keysIn fr to (T.take j)).length = KL at *
          go_wp2_with (at_builtin; refine wpList_append_run 46 _ _ rfl rfl _ _ rfl rfl _ _ hrun ?_)
          go_roundw
          case rel => exact ⟨j + 1, by go_num, by omega, HN2⟩
          case measure => simp [intOf]; omega
      · rw [if_neg hin, List.append_nil] at HSN
        have HN2 : Hid (KAt w (keysIn fr to (T.take (j + 1))) wr u7) := Hid.mk (by rw [HSN.out]; exact hA.out)
        rw [HIR.out] at hin
        clear hx kk hA HSN HIR
        by_cases hf : x.1 < fr
        · have hl1 : Op.bytesLess x.1 fr = true := by rw [bytesLess_eq]; simpa using hf
          clear hin
          generalize x.1 = xk at *
          generalize x.2 = xv at *
          go_wp2
          go_roundw
          case rel => exact ⟨j + 1, by go_num, by omega, HN2⟩
          case measure => simp [intOf]; omega
        · have hl1 : Op.bytesLess x.1 fr = false := by rw [bytesLess_eq]; simpa using hf
          have hto : to ≠ [] := fun e => hin (by simp [hf, e])
          have hem : to.isEmpty = false := by cases e : to with | nil => exact absurd e hto | cons _ _ => rfl
          have hl2 : Op.bytesLess x.1 to = false := by
            rw [bytesLess_eq]
            refine decide_eq_false fun h => hin ?_
            simp [hf, h]
          clear hin
          generalize x.1 = xk at *
          generalize x.2 = xv at *
          go_wp2
          go_roundw
          case rel => exact ⟨j + 1, by go_num, by omega, HN2⟩
          case measure => simp [intOf]; omega
    · obtain rfl : j = N := by omega
      have HF : Hid (OwnsR 9 1 wr u7 (CS (keysIn fr to T)) ∧ Kept [] w wr ∧ Fresh w u7) := Hid.mk (by
        obtain ⟨g1, g2, g3⟩ := hA.out
        rw [List.take_of_length_le (by have := hN.out; omega)] at g1
        exact ⟨g1, g3, g2⟩)
      clear hA
      go_wp2
      go_ret
      exact ⟨_, rfl, HF.out⟩
end
end Go.Proofs.YtgpbhlfdlkemjaaGreat
