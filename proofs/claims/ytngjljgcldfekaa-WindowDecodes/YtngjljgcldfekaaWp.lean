/-
  Windows, without memory: what is remembered behind an Add.
-/
import Derived.Test.YtngjljgcldfekaaWa
namespace Go.Proofs.Ytngjljgcldfekaa
open Go.RowKit
set_option linter.unusedVariables false
/-- The serials that are remembered of a client. -/
def srl (L : List Cl) (c : Nat) : List Nat := ((L.find? fun x => x.c == c).map (·.s)).getD []
/-- The other clients. -/
def oth (L : List Cl) (c : Nat) : List Cl := L.filter fun x => x.c != c
def cut4 (l : List Nat) : List Nat := if 4 < l.length then l.drop 1 else l
def cutW (L : List Cl) : List Cl := if 64 < L.length then L.drop 1 else L
/-- What is remembered behind an Add. -/
def addL (L : List Cl) (c s : Nat) : List Cl := cutW (oth L c ++ [⟨c, cut4 (srl L c ++ [s])⟩])
def seenL (L : List Cl) (c s : Nat) : Bool := decide (s ∈ srl L c)
def nxt (L : List Cl) (c s : Nat) : List Cl := if seenL L c s = true then L else addL L c s
theorem srl_nil (c : Nat) : srl [] c = [] := rfl
theorem srl_cons (x : Cl) (L : List Cl) (c : Nat) : srl (x :: L) c = if x.c = c then x.s else srl L c := by
  unfold srl
  rw [List.find?_cons]
  by_cases h : x.c = c
  · simp [h]
  · have : (x.c == c) = false := by simp [h]
    rw [this, if_neg h]
/-- A client is at a place, or nowhere. -/
theorem where_is (L : List Cl) (c : Nat) : (∃ j x, L[j]? = some x ∧ x.c = c ∧ (∀ y ∈ L.take j, y.c ≠ c) ∧ srl L c = x.s) ∨ ((∀ y ∈ L, y.c ≠ c) ∧ srl L c = []) := by
  induction L with
  | nil => exact .inr ⟨by simp, rfl⟩
  | cons x L ih =>
    by_cases h : x.c = c
    · exact .inl ⟨0, x, rfl, h, by simp, by rw [srl_cons, if_pos h]⟩
    · rw [srl_cons, if_neg h]
      rcases ih with ⟨j, y, h1, h2, h3, h4⟩ | ⟨h1, h2⟩
      · refine .inl ⟨j + 1, y, by simpa using h1, h2, fun z hz => ?_, h4⟩
        rw [List.take_succ_cons] at hz
        rcases List.mem_cons.1 hz with rfl | hz
        · exact h
        · exact h3 z hz
      · exact .inr ⟨fun y hy => by rcases List.mem_cons.1 hy with rfl | hy; exact h; exact h1 y hy, h2⟩
/-- What a window may remember. -/
structure Good (L : List Cl) : Prop where
  len : L.length ≤ 64
  one : ∀ x ∈ L, 1 ≤ x.s.length
  four : Four L
  dif : ∀ x ∈ L, x.s.Nodup
  num : ∀ x ∈ L, U64 x.c ∧ ∀ n ∈ x.s, U64 n
  nod : (clis L).Nodup
theorem Good.nil : Good [] := ⟨by simp, by simp, (fun x hx => by simp at hx), by simp, by simp, by simp [clis]⟩
theorem Good.fit {L : List Cl} (h : Good L) : Fit L := ⟨h.len, h.four⟩
theorem oth_none {L : List Cl} {c : Nat} (h : ∀ y ∈ L, y.c ≠ c) : oth L c = L := List.filter_eq_self.2 fun y hy => by simpa using h y hy
theorem oth_some {L : List Cl} {j : Nat} {x : Cl} {c : Nat} (hn : (clis L).Nodup) (hj : L[j]? = some x) (hx : x.c = c) : oth L c = L.take j ++ L.drop (j + 1) := by
  obtain ⟨hl, rfl⟩ := List.getElem?_eq_some_iff.1 hj
  have e : L = L.take j ++ L[j] :: L.drop (j + 1) := by rw [← List.drop_eq_getElem_cons hl, List.take_append_drop]
  have hn' : (clis (L.take j ++ L[j] :: L.drop (j + 1))).Nodup := by rw [← e]; exact hn
  rw [clis, List.map_append, List.map_cons, List.nodup_append] at hn'
  obtain ⟨-, h2, h3⟩ := hn'
  have h4 := (List.nodup_cons.1 h2).1
  conv => lhs; rw [e]
  rw [oth, List.filter_append, List.filter_cons, if_neg (by simp [hx])]
  congr 1
  · exact List.filter_eq_self.2 fun y hy => by
      have := h3 y.c (List.mem_map.2 ⟨y, hy, rfl⟩) L[j].c (by simp)
      simpa [← hx] using this
  · exact List.filter_eq_self.2 fun y hy => by
      have : y.c ≠ L[j].c := fun hh => h4 (by rw [← hh]; exact List.mem_map.2 ⟨y, hy, rfl⟩)
      simpa [← hx] using this
theorem oth_length (L : List Cl) (c : Nat) : (oth L c).length ≤ L.length := List.length_filter_le _ _
theorem oth_sub (L : List Cl) (c : Nat) : ∀ x ∈ oth L c, x ∈ L ∧ x.c ≠ c := fun x hx => by
  have := List.mem_filter.1 hx
  exact ⟨this.1, by simpa using this.2⟩
theorem cutW_small {L : List Cl} (h : L.length ≤ 64) : cutW L = L := if_neg (by omega)
theorem cut4_updC (x : Cl) (h : x.s.length ≤ 4) (s : Nat) : cut4 (x.s ++ [s]) = (updC x s).s := by
  unfold cut4 updC
  rw [List.length_append]
  by_cases h4 : x.s.length = 4
  · rw [if_pos (by simp; omega)]
    dsimp only
    rw [if_pos h4, List.drop_append_of_le_length (by omega)]
  · rw [if_neg (by simp; omega)]
    dsimp only
    rw [if_neg h4]
/-- The client is there. -/
theorem addL_some {L : List Cl} (hg : Good L) {j : Nat} {x : Cl} {c : Nat} (hj : L[j]? = some x) (hx : x.c = c) (hs : srl L c = x.s) (s : Nat) : addL L c s = L.take j ++ L.drop (j + 1) ++ [updC x s] := by
  have hl := (List.getElem?_eq_some_iff.1 hj).1
  have hlen := hg.len
  unfold addL
  rw [oth_some hg.nod hj hx, hs, cut4_updC x (hg.four x (List.mem_of_getElem? hj)) s, cutW_small (by simp; omega), ← hx]
  rfl
theorem addL_new {L : List Cl} {c : Nat} (hn : ∀ y ∈ L, y.c ≠ c) (hs : srl L c = []) (hl : L.length < 64) (s : Nat) : addL L c s = L ++ [updC ⟨c, []⟩ s] := by
  unfold addL
  rw [oth_none hn, hs, cutW_small (by simp; omega)]
  rfl
theorem addL_full {L : List Cl} {c : Nat} (hn : ∀ y ∈ L, y.c ≠ c) (hs : srl L c = []) (hl : L.length = 64) (s : Nat) : addL L c s = L.drop 1 ++ [updC ⟨c, []⟩ s] := by
  unfold addL cutW
  rw [oth_none hn, hs, if_pos (by simp; omega), List.drop_append_of_le_length (by omega)]
  rfl
theorem cut4_mem {l : List Nat} {n : Nat} (h : n ∈ cut4 l) : n ∈ l := by
  unfold cut4 at h
  split at h
  · exact List.mem_of_mem_drop h
  · exact h
theorem cutW_mem {L : List Cl} {x : Cl} (h : x ∈ cutW L) : x ∈ L := by
  unfold cutW at h
  split at h
  · exact List.mem_of_mem_drop h
  · exact h
theorem srl_or (L : List Cl) (c : Nat) : srl L c = [] ∨ ∃ x ∈ L, x.c = c ∧ srl L c = x.s := by
  rcases where_is L c with ⟨j, x, h1, h2, -, h4⟩ | ⟨-, h⟩
  · exact .inr ⟨x, List.mem_of_getElem? h1, h2, h4⟩
  · exact .inl h
theorem srl_good {L : List Cl} (hg : Good L) (c : Nat) : (srl L c).length ≤ 4 ∧ (srl L c).Nodup ∧ ∀ n ∈ srl L c, U64 n := by
  rcases srl_or L c with h | ⟨x, hx, -, h⟩
  · rw [h]; simp
  · rw [h]; exact ⟨hg.four x hx, hg.dif x hx, (hg.num x hx).2⟩
theorem Good.addL {L : List Cl} (hg : Good L) {c s : Nat} (hc : U64 c) (hs : U64 s) (hn : seenL L c s = false) : Good (addL L c s) := by
  obtain ⟨g1, g2, g3⟩ := srl_good hg c
  have hns : s ∉ srl L c := by simpa [seenL] using hn
  have hlen := oth_length L c
  have hgl := hg.len
  have key : ∀ x ∈ oth L c ++ [(⟨c, cut4 (srl L c ++ [s])⟩ : Cl)], 1 ≤ x.s.length ∧ x.s.length ≤ 4 ∧ x.s.Nodup ∧ (U64 x.c ∧ ∀ n ∈ x.s, U64 n) := fun x hx => by
    rcases List.mem_append.1 hx with hx | hx
    · have h1 := (oth_sub L c x hx).1
      exact ⟨hg.one x h1, hg.four x h1, hg.dif x h1, hg.num x h1⟩
    · simp at hx
      subst hx
      have hnd : (srl L c ++ [s]).Nodup := by
        rw [List.nodup_append]
        exact ⟨g2, by simp, fun a ha b hb => by simp at hb; subst hb; intro e; subst e; exact hns ha⟩
      refine ⟨?_, ?_, ?_, hc, fun n hn => ?_⟩
      · show 1 ≤ (cut4 (srl L c ++ [s])).length
        unfold cut4
        split
        · rename_i h; rw [List.length_drop]; omega
        · simp
      · show (cut4 (srl L c ++ [s])).length ≤ 4
        unfold cut4
        split
        · simp; omega
        · rename_i h; simp at h ⊢; omega
      · show (cut4 (srl L c ++ [s])).Nodup
        unfold cut4
        split
        · exact hnd.sublist (List.drop_sublist _ _)
        · exact hnd
      · rcases List.mem_append.1 (cut4_mem hn) with h | h
        · exact g3 n h
        · simp at h; subst h; exact hs
  have hnod : (clis (oth L c ++ [(⟨c, cut4 (srl L c ++ [s])⟩ : Cl)])).Nodup := by
    rw [clis, List.map_append, List.nodup_append]
    refine ⟨hg.nod.sublist (List.filter_sublist.map _), by simp, fun a ha b hb => ?_⟩
    simp at hb
    subst hb
    obtain ⟨x, hx, rfl⟩ := List.mem_map.1 ha
    exact (oth_sub L b x hx).2
  refine ⟨?_, fun x hx => (key x (cutW_mem hx)).1, fun x hx => (key x (cutW_mem hx)).2.1, fun x hx => (key x (cutW_mem hx)).2.2.1, fun x hx => (key x (cutW_mem hx)).2.2.2, ?_⟩
  · unfold Ytngjljgcldfekaa.addL cutW
    split
    · simp; omega
    · omega
  · unfold Ytngjljgcldfekaa.addL cutW
    split
    · exact hnod.sublist ((List.drop_sublist _ _).map _)
    · exact hnod
theorem Good.nxt {L : List Cl} (hg : Good L) {c s : Nat} (hc : U64 c) (hs : U64 s) : Good (nxt L c s) := by
  unfold Ytngjljgcldfekaa.nxt
  split
  · exact hg
  · rename_i h; exact hg.addL hc hs (by simpa using h)
end Go.Proofs.Ytngjljgcldfekaa
