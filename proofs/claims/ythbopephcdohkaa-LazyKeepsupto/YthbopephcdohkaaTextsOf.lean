/-
  lazy.textsOf, and the document's own Texts: the texts that bytes are.
-/
import Derived.Test.YthbopephcdohkaaParse
import Derived.Test.YthbopephcdohkaaRefR2
namespace Go.Proofs.Ythbopephcdohkaa
open Go.RowKit
set_option linter.unusedVariables false

theorem inf9 : (Try.prog.info? 9).map (fun i => (i.zero, i.size, i.bytes)) = some (some (.string ⟨#[]⟩), 1, 16) := by kernel_rfl

/-- What a round has: a Reader at p with 'rest' left, and the texts acc in the row tv; all in memory that is new since w. -/
structure Going (t : TypeId) (w : World) (l : List UInt8) (p : Nat) (tv : Value) (acc : List (List UInt8)) (v : Value) (rest : List UInt8) (bad : Bool) (wr : World) : Prop where
  rd : IsR t wr p v rest bad
  own : OwnsT wr tv acc
  kept : Kept [] w wr
  fresh : Fresh w tv
  at_p : w.heap.size ≤ p
  tp : tv.ownBlock ≠ some p
  tv_ : ∀ g, v.ownBlock = some g → tv.ownBlock ≠ some g
  len : acc.length + rest.length ≤ l.length
  goal : cont acc rest bad = parse l

/-- One round: a text was read, and is laid behind the others. -/
theorem Going.step {t : TypeId} {w : World} {l : List UInt8} {p : Nat} {tv : Value} {acc : List (List UInt8)} {v : Value} {rest : List UInt8} {wr w1 w2 : World} {g cap : Nat} (h : Going t w l p tv acc v rest false wr) (hne : rest ≠ [])
    (hL : Rest t wr p v (rtext rest false).2.1 (rtext rest false).2.2 w1) (o : Obj)
    (hown : w2.ownsRow 0 9 1 (.slice (some ⟨g, 0, none⟩) (acc.length + 1) cap) (acc.length + 1) (CT acc ++ [T8 (rtext rest false).1])) (hg : (w1.alloc o).grownBy w2 tv.ownBlock) (hat : tv.ownBlock = some g ∨ g = w1.heap.size + 1) :
    ∃ v', Going t w l p (.slice (some ⟨g, 0, none⟩) (acc.length + 1) cap) (acc ++ [(rtext rest false).1]) v' (rtext rest false).2.1 (rtext rest false).2.2 w2 ∧ (rtext rest false).2.1.length < rest.length := by
  obtain ⟨v', hR, hk, hin⟩ := hL
  have hlt := h.rd.lt
  have hk1 := hk.size
  have hs : (rtext rest false).2.1.length < rest.length := by
    cases hb : (rtext rest false).2.2 with
    | false => exact rtext_short rest hne hb
    | true => rw [hR.none hb]; exact List.length_pos_iff.2 hne
  have kk : Kept tv.ownBlock.toList w1 w2 := ((Kept.refl _ w1).alloc o).grown hg (fun k hk2 => .inl (by rw [Option.mem_toList]; exact hk2))
  have hvin : ∀ g', v'.ownBlock = some g' → tv.ownBlock ≠ some g' := fun g' hg' => h.tv_ g' (hin g' hg')
  have h1 : Kept [] w w1 := h.kept.trans hk (fun x hx => by simp at hx; subst hx; exact .inr h.at_p)
  have hp2 : p ∉ tv.ownBlock.toList := fun hm => h.tp (by rw [Option.mem_toList] at hm; exact hm)
  have hv2 : ∀ g', v'.ownBlock = some g' → g' ∉ tv.ownBlock.toList := fun g' hg' hm => hvin g' hg' (by rw [Option.mem_toList] at hm; exact hm)
  have hsz := h.kept.size
  refine ⟨v', ⟨hR.kept kk hp2 hv2, ?_, h1.trans kk (fun x hx => by rw [Option.mem_toList] at hx; exact .inr (h.fresh x hx)), ?_, h.at_p, ?_, ?_, by rw [List.length_append]; have := h.len; simp; omega, by rw [cont_step acc rest hne]; exact h.goal⟩, hs⟩
  · unfold OwnsT
    rw [CT_append, List.length_append]
    exact hown
  · intro x hx
    simp [Value.ownBlock] at hx
    subst hx
    rcases hat with h2 | h2
    · exact h.fresh _ h2
    · omega
  · intro hx
    simp [Value.ownBlock] at hx
    subst hx
    rcases hat with h2 | h2
    · exact h.tp h2
    · omega
  · intro g' hg' hx
    simp [Value.ownBlock] at hx
    subst hx
    rcases hat with h2 | h2
    · exact hvin _ hg' h2
    · by_cases he : (rtext rest false).2.1 = []
      · have := hin _ hg'
        by_cases hr : rest = []
        · exact hne hr
        · obtain ⟨k, hk2, hk3⟩ := h.rd.reads.lt hne
          rw [this] at hk2
          injection hk2 with hk2
          omega
      · obtain ⟨k, hk2, hk3⟩ := hR.reads.lt he
        rw [hg'] at hk2
        injection hk2 with hk2
        omega

theorem Going.begin {t : TypeId} {w w1 : World} {l : List UInt8} {p : Nat} {v : Value} (hR : IsR t w1 p v l false) (hk : Kept [] w w1) (hp : w.heap.size ≤ p) : Going t w l p (.slice none 0 0) [] v l false w1 :=
  ⟨hR, OwnsT.nil _, hk, fun g hg => by simp [Value.ownBlock] at hg, hp, by simp [Value.ownBlock], by simp [Value.ownBlock], by simp, cont_begin l⟩

theorem laidT {t : TypeId} {w : World} {l : List UInt8} {p : Nat} {tv : Value} {acc : List (List UInt8)} {v : Value} {rest r2 : List UInt8} {bad b2 : Bool} {wr w1 : World} (h : Going t w l p tv acc v rest bad wr) (hL : Rest t wr p v r2 b2 w1) : w1.ownsRow 0 9 1 tv acc.length (CT acc) := by
  obtain ⟨v', hR, hk, hin⟩ := hL
  exact h.own.kept hk (fun g hg hm => by simp at hm; subst hm; exact h.tp hg)

/-- What is told in the end. -/
def Told (w : World) (l : List UInt8) (e : Ending) (w' : World) : Prop :=
  ∃ tv, e = .returned (.tuple #[tv, .bool (parse l).isSome]) ∧ OwnsT w' tv ((parse l).getD []) ∧ Kept [] w w' ∧ Fresh w tv ∧ ((parse l).getD []).length ≤ l.length

theorem Going.bad {t : TypeId} {w : World} {l : List UInt8} {p : Nat} {tv : Value} {acc : List (List UInt8)} {v : Value} {rest : List UInt8} {wr : World} (h : Going t w l p tv acc v rest true wr) : Told w l (.returned (.tuple #[.slice none 0 0, .bool false])) wr := by
  have hg : parse l = none := h.goal.symm
  exact ⟨.slice none 0 0, by rw [hg]; rfl, by rw [hg]; exact OwnsT.nil _, h.kept, fun g hg => by simp [Value.ownBlock] at hg, by rw [hg]; simp⟩

theorem Going.done {t : TypeId} {w : World} {l : List UInt8} {p : Nat} {tv : Value} {acc : List (List UInt8)} {v : Value} {wr : World} (h : Going t w l p tv acc v [] false wr) : Told w l (.returned (.tuple #[tv, .bool true])) wr := by
  have hg : parse l = some acc := by rw [← h.goal, cont_end]
  exact ⟨tv, by rw [hg]; rfl, by rw [hg]; exact h.own, h.kept, h.fresh, by rw [hg]; have := h.len; simp at this ⊢; omega⟩

set_option maxRecDepth 100000 in
set_option maxHeartbeats 2000000 in
/-- lazy.textsOf. -/
theorem textsOf_any (v : Value) (l : List UInt8) (w : World) (h : Reads w v l) (hl : l.length ≤ 16777216) : Calls Try.prog 33 #[v] w (Told w l) := by
  obtain ⟨i0, hi, hz0, hz1, hz2⟩ := info_parts inf9
  go_enter Try.func33, Try.ntmps33
  go_wp2_with fail
  refine (newr_in v l _ h (by omega)).mono ?_
  rintro e w1 ⟨p, v1, rfl, hR, hk, hf, hp, hin⟩
  have G0 := Going.begin hR hk hp
  clear hR hk hp hf hin
  go_wp2_with fail
  go_loopw [4] (fun tv wr => ∃ acc v' rest bad, Going 110 w l p tv acc v' rest bad wr) (fun _ wr => leftAt wr p)
  case atStart => exact ⟨_, _, _, _, G0⟩
  case round =>
    clear G0
    obtain ⟨acc, v2, rest, bad, G⟩ := hrel
    have hleft := left_any p v2 rest bad wr G.rd
    by_cases hne : rest = []
    · subst hne
      have hbad := bad_any p v2 [] bad wr G.rd
      have h0 : ¬ (0 : Int) < (([] : List UInt8).length : Int) := by simp
      cases bad with
      | true =>
        go_wp2_with (first | (go_at_call 57; refine hleft.mono ?_; rintro e w' ⟨rfl, rfl⟩) | (go_at_call 59; refine hbad.mono ?_; rintro e w' ⟨rfl, rfl⟩))
        go_ret2
        exact G.bad
      | false =>
        go_wp2_with (first | (go_at_call 57; refine hleft.mono ?_; rintro e w' ⟨rfl, rfl⟩) | (go_at_call 59; refine hbad.mono ?_; rintro e w' ⟨rfl, rfl⟩))
        go_ret2
        exact G.done
    · have hb : bad = false := by
        cases bad with
        | false => rfl
        | true => exact absurd (G.rd.none rfl) hne
      subst hb
      have hpos : (0 : Int) < (rest.length : Int) := by have := List.length_pos_iff.2 hne; omega
      have htext := rtext_any p v2 rest false wr G.rd
      have hm := leftAt_of G.rd
      have hlen := G.len
      have hal : acc.length + 1 ≤ l.length := by have := List.length_pos_iff.2 hne; omega
      clear hlen
      go_wp2_with (first | (go_at_call 57; refine hleft.mono ?_; rintro e w' ⟨rfl, rfl⟩) | (go_at_call 58; refine htext.mono ?_; rintro e w3 ⟨rfl, hL⟩; have hown : (w3.alloc (.cells #[T8 (rtext rest false).1] 9)).ownsRow 0 9 1 u4 acc.length (CT acc) := (laidT G hL).alloc _) | (at_builtin; refine wpList_append_lies _ rfl _ _ _ rfl 0 9 i0 _ 1 16 Try.underlying26 hi hz0 hz1 hz2 rfl (by omega) u4 acc.length (CT acc) rfl hown ⟨w3.heap.size, 0, none⟩ 1 1 [_] rfl rfl (World.news_of_block (cs := #[_]) (t := 9) (fr := (0, 0)) (heap_alloc_new w3 _)) (by simp [Value.oneCell']) (by omega) (by unfold maxLen; omega) (by omega) (by omega) (w3.heap.size + 1) (by simp) ?_; intro g2 cap2 w2 hown2 hgrow2 hat2 hgl2))
      obtain ⟨v5, G5, hs⟩ := G.step hne hL _ hown2 hgrow2 hat2
      exact ⟨⟨_, _, _, _, G5⟩, by rw [leftAt_of G5.rd, hm]; exact hs⟩

theorem badAt {t : TypeId} {w w1 : World} {p : Nat} {v : Value} {l : List UInt8} {b : Bool} (hL : Rest t w p v l b w1) : w1.cell? ⟨p, 1, none⟩ = some (.bool b) := by
  obtain ⟨v', hR, -, -⟩ := hL
  exact (cell_of_two hR.box).2

theorem Going.failed {t : TypeId} {w : World} {l : List UInt8} {p : Nat} {tv : Value} {acc : List (List UInt8)} {v : Value} {rest r2 : List UInt8} {b2 : Bool} {wr w1 : World} (h : Going t w l p tv acc v rest false wr) (hne : rest ≠ []) (hb : (rtext rest false).2.2 = true) (hL : Rest t wr p v r2 b2 w1) : Told w l (.returned (.tuple #[.slice none 0 0, .bool false])) w1 := by
  obtain ⟨v', hR, hk, hin⟩ := hL
  have hg : parse l = none := by
    rw [← h.goal]
    unfold cont
    rw [cond_false, parse_step rest hne, hb]
    rfl
  have h1 : Kept [] w w1 := h.kept.trans hk (fun x hx => by simp at hx; subst hx; exact .inr h.at_p)
  exact ⟨.slice none 0 0, by rw [hg]; rfl, by rw [hg]; exact OwnsT.nil _, h1, fun g hg => by simp [Value.ownBlock] at hg, by rw [hg]; simp⟩

set_option maxRecDepth 100000 in
set_option maxHeartbeats 2000000 in
/-- The document's Texts. -/
theorem refTexts_any (v : Value) (l : List UInt8) (w : World) (h : Reads w v l) (hin : Inside w v) (hl : l.length ≤ 16777216) : Calls Try.prog 11 #[v] w (Told w l) := by
  obtain ⟨i0, hi, hz0, hz1, hz2⟩ := info_parts inf9
  have hnot : ∀ (x : Bool) (w : World), (Op.unary .not (.bool x)).run Try.prog w = .ok (.bool (!x)) w := fun _ _ => rfl
  go_enter Try.func11, Try.ntmps11
  go_wp2_with fail
  refine (of_any v l _ h hin).mono ?_
  rintro e w1 ⟨p, rfl, hR, hk, hp⟩
  have G0 := Going.begin hR hk hp
  clear hR hk hp hin
  go_wp2_with fail
  go_loopw [5, 6] (fun tv s wr => ∃ acc v' rest, Going 66 w l p tv acc v' rest false wr) (fun _ _ wr => leftAt wr p)
  case atStart => exact ⟨_, _, _, G0⟩
  case round =>
    clear G0
    obtain ⟨acc, v2, rest, G⟩ := hrel
    have hend := refr_end p v2 rest false wr G.rd
    by_cases hne : rest = []
    · subst hne
      go_wp2_with (first | (go_at_call 23; refine hend.mono ?_; rintro e w' ⟨rfl, rfl⟩))
      go_ret2
      exact G.done
    · have he : (!false && rest.isEmpty) = false := by cases rest with | nil => exact absurd rfl hne | cons _ _ => rfl
      rw [he] at hend
      have htext := refr_text p v2 rest false wr G.rd
      have hm := leftAt_of G.rd
      have hal : acc.length + 1 ≤ l.length := by have := G.len; have := List.length_pos_iff.2 hne; omega
      cases hb : (rtext rest false).2.2 with
      | true =>
        go_wp2_with (first | (go_at_call 23; refine hend.mono ?_; rintro e w' ⟨rfl, rfl⟩) | (go_at_call 24; refine htext.mono ?_; rintro e w3 ⟨rfl, hL⟩; have hc1 := badAt hL; rw [hb] at hc1))
        go_ret2
        exact G.failed hne hb hL
      | false =>
        go_wp2_with (first | (go_at_call 23; refine hend.mono ?_; rintro e w' ⟨rfl, rfl⟩) | (go_at_call 24; refine htext.mono ?_; rintro e w3 ⟨rfl, hL⟩; have hc1 := badAt hL; rw [hb] at hc1; have hown : (w3.alloc (.cells #[T8 (rtext rest false).1] 9)).ownsRow 0 9 1 u5 acc.length (CT acc) := (laidT G hL).alloc _) | (at_builtin; refine wpList_append_lies _ rfl _ _ _ rfl 0 9 i0 _ 1 16 Try.underlying26 hi hz0 hz1 hz2 rfl (by omega) u5 acc.length (CT acc) rfl hown ⟨w3.heap.size, 0, none⟩ 1 1 [_] rfl rfl (World.news_of_block (cs := #[_]) (t := 9) (fr := (0, 0)) (heap_alloc_new w3 _)) (by simp [Value.oneCell']) (by omega) (by unfold maxLen; omega) (by omega) (by omega) (w3.heap.size + 1) (by simp) ?_; intro g2 cap2 w2 hown2 hgrow2 hat2 hgl2))
        obtain ⟨v5, G5, hs⟩ := G.step hne hL _ hown2 hgrow2 hat2
        rw [hb] at G5
        exact ⟨⟨_, _, _, G5⟩, by rw [leftAt_of G5.rd, hm]; exact hs⟩

end Go.Proofs.Ythbopephcdohkaa
